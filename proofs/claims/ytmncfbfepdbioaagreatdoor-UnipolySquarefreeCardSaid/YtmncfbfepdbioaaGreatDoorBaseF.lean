/-
 Written by mkbase.py: Of, Ref, Small, RefSub, Fit, RefLeft, RefRight, RefBits, RefGcdP.
-/
import Derived.Laws.BitsAllLaws
import Derived.Deep.DeepCutAuto
import Derived.Test.YtmncfbfepdbioaaGreatDoorBaseD
import Derived.Test.YtmncfbfepdbioaaGreatDoorBaseP
set_option maxRecDepth 20000
set_option maxHeartbeats 4000000
namespace Go.Proofs.YtmncfbfepdbioaaGreatDoor
open Go.RowKit
theorem rwrap_of_neg (n : Int) (h1 : -9223372036854775808 <= n) (h2 : n < 0) : IntKind.u64.wrap (-(IntKind.u64.wrap n)) = -n := by
 rw [IntKind.wrap_u64, IntKind.wrap_u64]; omega
end Go.Proofs.YtmncfbfepdbioaaGreatDoor
namespace Go.Proofs.YtmncfbfepdbioaaGreatDoor
open Go.RowKit
theorem rorder_any (A A' : Option Addr) (n c n' c' B B' : Nat) (xs ys : List Nat) (w : World) (h : Sl w B A n c xs) (h' : Sl w B' A' n' c' ys) (hx : Nz xs) (hy : Nz ys) :
 Calls Tryz.prog 186 #[.slice A n c, .slice A' n' c'] w fun e w' => e = .returned (.int .i64 (cmpv (val xs) (val ys))) /\ ∃ k, w' = w.drewN k := by
 have hr := h.reach
 have hcr := h.capr
 have hc := h.cap
 have hr' := h'.reach
 have hcr' := h'.capr
 have hc' := h'.cap
 by_cases hlen : n = n'
 . subst hlen
   have hlx := h.len
   have hly := h'.len
   have Hlx := Lib.hid hlx
   have Hly := Lib.hid hly
   clear hlx hly
   have hb : ((n : Int) != (n : Int)) = false := by simp
   go_enter Tryz.func186, Tryz.ntmps186
   go_wp2
   go_loopw [5] (fun iv wr => ∃ k q : Nat, k <= n /\ iv = .int .i64 ((k : Int) - 1) /\ wr = w.drewN q /\ Hid (val (xs.drop k) = val (ys.drop k))) (fun iv _ => (intOf iv + 1).toNat)
   case atStart => exact ⟨n, 0, by omega, rfl, rfl, by rw [Hid, List.drop_of_length_le (by rw [Hlx.out]; omega), List.drop_of_length_le (by rw [Hly.out]; omega)]⟩
   case round =>
    obtain ⟨k, q, hk, rfl, rfl, Hd⟩ := hrel
    rcases k with _ | j
    . have e : val xs = val ys := Hd.out
      have Hf := Lib.hid (show cmpv (val xs) (val ys) = 0 by rw [e]; exact cmpv_eq _)
      clear e
      go_wp2
      rw [Hf.out]
      go_ret
      exact ⟨rfl, _, rfl⟩
    . obtain ⟨ad, rfl, _, hc1⟩ := h.cell (k := j) (by omega)
      obtain ⟨ad', rfl, _, hc2⟩ := h'.cell (k := j) (by omega)
      rw [show (((j + 1 : Nat) : Int) - 1) = (j : Int) by omega]
      have i1 : (0 : Int) <= (j : Int) := by omega
      have i2 : (j : Int) < (n : Int) := by omega
      by_cases t1 : lim xs j < lim ys j
      . have Hf := Lib.hid (cmpv_lt (lt_of_limb h.ok (by rw [Hlx.out]; omega) (by rw [Hly.out]; omega) Hd.out t1))
        have t1' : decide ((lim xs j : Int) < (lim ys j : Int)) = true := by simp; omega
        go_wp2_with fail
        go_quiet (fail)
        go_wp2
        rw [Hf.out]
        go_ret
        exact ⟨rfl, by simp only [World.drewN_drewN]; exact ⟨_, rfl⟩⟩
      . have t1' : decide ((lim xs j : Int) < (lim ys j : Int)) = false := by simp; omega
        by_cases t2 : lim ys j < lim xs j
        . have Hf := Lib.hid (cmpv_gt (lt_of_limb h'.ok (by rw [Hly.out]; omega) (by rw [Hlx.out]; omega) Hd.out.symm t2))
          have t2' : decide ((lim ys j : Int) < (lim xs j : Int)) = true := by simp; omega
          go_wp2_with fail
          go_quiet (fail)
          go_wp2_with fail
          go_quiet (fail)
          go_wp2
          rw [Hf.out]
          go_ret
          exact ⟨rfl, by simp only [World.drewN_drewN]; exact ⟨_, rfl⟩⟩
        . have e := drop_eq_step (by rw [Hlx.out]; omega) (by rw [Hly.out]; omega) Hd.out (show lim xs j = lim ys j by omega)
          have E := Lib.hid e
          clear e
          have t2' : decide ((lim ys j : Int) < (lim xs j : Int)) = false := by simp; omega
          go_wp2_with fail
          go_quiet (fail)
          go_wp2_with fail
          go_quiet (fail)
          go_wp2
          exact ⟨⟨j, _, by omega, by go_num, rfl, E.out⟩, by simp [intOf]⟩
 . by_cases hlt : n < n'
   . have Hf := Lib.hid (cmpv_lt (val_lt_of_length h.ok hy (by rw [h.len, h'.len]; exact hlt)))
     have hb : ((n : Int) != (n' : Int)) = true := by rw [bne_iff_ne]; omega
     have ht : (n : Int) < (n' : Int) := by omega
     go_enter Tryz.func186, Tryz.ntmps186
     go_wp2
     rw [Hf.out]
     go_ret
     exact ⟨rfl, 0, rfl⟩
   . have Hf := Lib.hid (cmpv_gt (val_lt_of_length h'.ok hx (by rw [h.len, h'.len]; omega)))
     have hb : ((n : Int) != (n' : Int)) = true := by rw [bne_iff_ne]; omega
     have ht : (n' : Int) <= (n : Int) := by omega
     go_enter Tryz.func186, Tryz.ntmps186
     go_wp2
     rw [Hf.out]
     go_ret
     exact ⟨rfl, 0, rfl⟩
end Go.Proofs.YtmncfbfepdbioaaGreatDoor
namespace Go.Proofs.YtmncfbfepdbioaaGreatDoor
open Go.RowKit
theorem rvalid_any (neg : Bool) (A : Option Addr) (n c B : Nat) (xs : List Nat) (w : World) (h : Sl w B A n c xs) (hB : B <= w.heap.size) :
 Calls Tryz.prog 150 #[.agg #[.bool neg, .slice A n c]] w fun e w' => e = .returned (.bool (vld neg xs)) /\ Below w.heap.size w w' := by
 have hr := h.reach
 have hcr := h.capr
 have hc := h.cap
 have hl := h.len
 have hb := (Below.refl w.heap.size w).alloc (Nat.le_refl _) (.cells #[.bool neg, .slice A n c] 25)
 unfold vld
 rw [hl]
 by_cases h0 : n = 0
 . subst h0
   rw [if_pos rfl]
   clear hl
   go_enter Tryz.func150, Tryz.ntmps150
   go_wp2
   go_ret
   exact ⟨rfl, hb⟩
 . rw [if_neg h0]
   obtain ⟨ad, rfl, hadb, hc1⟩ := (h.alloc hB (.cells #[.bool neg, .slice A n c] 25)).cell (k := n - 1) (by omega)
   have i1 : (0 : Int) <= (n : Int) - 1 := by omega
   have i2 : (n : Int) - 1 < (n : Int) := by omega
   have i3 : ((n : Int) - 1).toNat = n - 1 := by omega
   have i4 : ((n : Int) == 0) = false := by rw [beq_eq_false_iff_ne]; omega
   clear hl
   by_cases h1 : n <= 128
   . have d1 : decide (128 < (n : Int)) = false := by simp; omega
     go_enter Tryz.func150, Tryz.ntmps150
     go_wp2
     go_ret
     refine ⟨ret_bool ?_, hb⟩
     rw [decide_eq_true h1, Bool.true_and, bne, beq_cast0]
   . have d1 : decide (128 < (n : Int)) = true := by simp; omega
     go_enter Tryz.func150, Tryz.ntmps150
     go_wp2
     go_ret
     refine ⟨ret_bool ?_, hb⟩
     rw [decide_eq_false h1, Bool.false_and]
theorem rof_any (n : Int) (w : World) (h1 : -9223372036854775808 <= n) (h2 : n <= 9223372036854775807) :
 Calls Tryz.prog 106 #[.int .i64 n] w (RetI n w) := by
 by_cases h0 : n < 0
 . have W := Lib.hid (rwrap_of_neg n h1 h0)
   have Hd := Lib.hid (show true = decide (n < 0) by simp; omega)
   go_enter Tryz.func106, Tryz.ntmps106
   go_wp2_with fail
   rw [W.out]
   have hrow : Row (((w.alloc (Obj.cells #[Value.bool false, Value.slice none 0 0] 25)).alloc (Obj.cells #[] 44)).alloc (Obj.cells #[Value.int IntKind.u32 (-n % 4294967296), Value.int IntKind.u32 (-n / 4294967296 % 4294967296)] 44)) (w.heap.size + 1 + 1)
    [(-n % 4294967296).toNat, (-n / 4294967296 % 4294967296).toNat] := by
    have e : #[Value.int IntKind.u32 (-n % 4294967296), Value.int IntKind.u32 (-n / 4294967296 % 4294967296)] = (us [(-n % 4294967296).toNat, (-n / 4294967296 % 4294967296).toNat]).toArray := by
     simp [us]; omega
    rw [e]
    have := Blk.new ((w.alloc (Obj.cells #[Value.bool false, Value.slice none 0 0] 25)).alloc (Obj.cells #[] 44)) 44 (us [(-n % 4294967296).toNat, (-n / 4294967296 % 4294967296).toNat]).toArray
    simpa [Row] using this
   have hok : Ok [(-n % 4294967296).toNat, (-n / 4294967296 % 4294967296).toNat] := Ok.cons (by omega) (Ok.cons (by omega) Ok.nil)
   have Hm := Lib.hid (show val [(-n % 4294967296).toNat, (-n / 4294967296 % 4294967296).toNat] = n.natAbs by simp [val]; omega)
   have Hb := Lib.hid ((((Below.refl w.heap.size w).alloc (Nat.le_refl _) (.cells #[.bool false, .slice none 0 0] 25)).alloc (by simp) (.cells #[] 44)).alloc (by simp; omega) (.cells #[Value.int IntKind.u32 (-n % 4294967296), Value.int IntKind.u32 (-n / 4294967296 % 4294967296)] 44))
   have Hx := Lib.hid (((Bx.new w false none 0 0).alloc (.cells #[] 44)).alloc (.cells #[Value.int IntKind.u32 (-n % 4294967296), Value.int IntKind.u32 (-n / 4294967296 % 4294967296)] 44))
   have He : Hid (Blk (((w.alloc (Obj.cells #[Value.bool false, Value.slice none 0 0] 25)).alloc (Obj.cells #[] 44)).alloc (Obj.cells #[Value.int IntKind.u32 (-n % 4294967296), Value.int IntKind.u32 (-n / 4294967296 % 4294967296)] 44)) (w.heap.size + 1) 44 #[]) := by
    have := (Blk.new (w.alloc (Obj.cells #[Value.bool false, Value.slice none 0 0] 25)) 44 #[]).alloc (Obj.cells #[Value.int IntKind.u32 (-n % 4294967296), Value.int IntKind.u32 (-n / 4294967296 % 4294967296)] 44)
    simpa [Hid] using this
   generalize hW : World.alloc (World.alloc (World.alloc w _) _) _ = V at *
   clear hW
   have hz := hrow.lt
   have hsl := hrow.sl (B := V.heap.size) (n := 2) (c := 2) hz 0 (by simp) (by omega) (by omega) hok
   rw [List.drop_zero, List.take_of_length_le (by simp)] at hsl
   generalize [(-n % 4294967296).toNat, (-n / 4294967296 % 4294967296).toNat] = ys at *
   have Hl := Lib.hid hsl
   clear hsl
   refine (rtrim_any _ _ _ _ _ V Hl.out).mono ?_
   rintro e w3 ⟨⟨k, hk, rfl, hnz, hv⟩, rfl⟩
   have Hv := Lib.hid hv
   clear hv
   go_wp2_with (at_builtin; refine copy_app rfl _ _ rfl (w.heap.size + 1) k 2 V.heap.size _ _ rfl He.out rfl (Hl.out.to hk) ?_; intro A' c' w' hs' hg'; have hx' : Bx w' w.heap.size false none 0 0 := Blk.grown Hx.out hg' (by simp); have m0 := hx'.c0; have m1 := hx'.c1; have m2 := hx'.f 0; have m3 := hx'.f 1)
   exact bodyPost_ret (v := .agg #[.bool true, .slice A' k c']) (by simp [results, Tryz.results106, go_sem, m0, m1]) rfl
    ⟨A', k, c', _, ret_neg Hd.out, hs'.ret hx' _ _, hnz, by rw [Hv.out, Hm.out], below_ret (below_grown Hb.out hg' (by omega) (by omega)) (Nat.le_refl _) _ _⟩
 . have h3 : 0 <= n := by omega
   have Hd := Lib.hid (show false = decide (n < 0) by simp; omega)
   go_enter Tryz.func106, Tryz.ntmps106
   go_wp2_with fail
   have hrow : Row (((w.alloc (Obj.cells #[Value.bool false, Value.slice none 0 0] 25)).alloc (Obj.cells #[] 44)).alloc (Obj.cells #[Value.int IntKind.u32 (n % 4294967296), Value.int IntKind.u32 (n / 4294967296)] 44)) (w.heap.size + 1 + 1)
    [(n % 4294967296).toNat, (n / 4294967296).toNat] := by
    have e : #[Value.int IntKind.u32 (n % 4294967296), Value.int IntKind.u32 (n / 4294967296)] = (us [(n % 4294967296).toNat, (n / 4294967296).toNat]).toArray := by
     simp [us]; omega
    rw [e]
    have := Blk.new ((w.alloc (Obj.cells #[Value.bool false, Value.slice none 0 0] 25)).alloc (Obj.cells #[] 44)) 44 (us [(n % 4294967296).toNat, (n / 4294967296).toNat]).toArray
    simpa [Row] using this
   have hok : Ok [(n % 4294967296).toNat, (n / 4294967296).toNat] := Ok.cons (by omega) (Ok.cons (by omega) Ok.nil)
   have Hm := Lib.hid (show val [(n % 4294967296).toNat, (n / 4294967296).toNat] = n.natAbs by simp [val]; omega)
   have Hb := Lib.hid ((((Below.refl w.heap.size w).alloc (Nat.le_refl _) (.cells #[.bool false, .slice none 0 0] 25)).alloc (by simp) (.cells #[] 44)).alloc (by simp; omega) (.cells #[Value.int IntKind.u32 (n % 4294967296), Value.int IntKind.u32 (n / 4294967296)] 44))
   have Hx := Lib.hid (((Bx.new w false none 0 0).alloc (.cells #[] 44)).alloc (.cells #[Value.int IntKind.u32 (n % 4294967296), Value.int IntKind.u32 (n / 4294967296)] 44))
   have He : Hid (Blk (((w.alloc (Obj.cells #[Value.bool false, Value.slice none 0 0] 25)).alloc (Obj.cells #[] 44)).alloc (Obj.cells #[Value.int IntKind.u32 (n % 4294967296), Value.int IntKind.u32 (n / 4294967296)] 44)) (w.heap.size + 1) 44 #[]) := by
    have := (Blk.new (w.alloc (Obj.cells #[Value.bool false, Value.slice none 0 0] 25)) 44 #[]).alloc (Obj.cells #[Value.int IntKind.u32 (n % 4294967296), Value.int IntKind.u32 (n / 4294967296)] 44)
    simpa [Hid] using this
   generalize hW : World.alloc (World.alloc (World.alloc w _) _) _ = V at *
   clear hW
   have hz := hrow.lt
   have hsl := hrow.sl (B := V.heap.size) (n := 2) (c := 2) hz 0 (by simp) (by omega) (by omega) hok
   rw [List.drop_zero, List.take_of_length_le (by simp)] at hsl
   generalize [(n % 4294967296).toNat, (n / 4294967296).toNat] = ys at *
   have Hl := Lib.hid hsl
   clear hsl
   refine (rtrim_any _ _ _ _ _ V Hl.out).mono ?_
   rintro e w3 ⟨⟨k, hk, rfl, hnz, hv⟩, rfl⟩
   have Hv := Lib.hid hv
   clear hv
   go_wp2_with (at_builtin; refine copy_app rfl _ _ rfl (w.heap.size + 1) k 2 V.heap.size _ _ rfl He.out rfl (Hl.out.to hk) ?_; intro A' c' w' hs' hg'; have hx' : Bx w' w.heap.size false none 0 0 := Blk.grown Hx.out hg' (by simp); have m0 := hx'.c0; have m1 := hx'.c1; have m2 := hx'.f 0; have m3 := hx'.f 1)
   exact bodyPost_ret (v := .agg #[.bool false, .slice A' k c']) (by simp [results, Tryz.results106, go_sem, m0, m1]) rfl
    ⟨A', k, c', _, ret_neg Hd.out, hs'.ret hx' _ _, hnz, by rw [Hv.out, Hm.out], below_ret (below_grown Hb.out hg' (by omega) (by omega)) (Nat.le_refl _) _ _⟩
end Go.Proofs.YtmncfbfepdbioaaGreatDoor
namespace Go.Proofs.YtmncfbfepdbioaaGreatDoor
open Go.RowKit
theorem rminus_rel {w wr : World} {zr xs ys : List Nat} {g k m cy : Nat} (hlt : k < m) (hm : zr.length = m) (Hrow : Hid (Row wr g zr)) (Hok : Hid (Ok zr))
 (Hval : Hid (wv zr 0 k + val (ys.take k) = val (xs.take k) + 4294967296 ^ k * cy)) (Hb : Hid (Below g w wr)) (v c' : Nat) (hv : v < 4294967296) (hs : v + cy + lim ys k = lim xs k + 4294967296 * c') :
 Hid ((zr.set k v).length = m) /\ Hid (Row (wr.setCell ⟨g, k, none⟩ (.int .u32 (v : Int))) g (zr.set k v)) /\ Hid (Ok (zr.set k v)) ∧
 Hid (wv (zr.set k v) 0 (k + 1) + val (ys.take (k + 1)) = val (xs.take (k + 1)) + 4294967296 ^ (k + 1) * c') ∧
 Hid (Below g w (wr.setCell ⟨g, k, none⟩ (.int .u32 (v : Int)))) := by
 refine ⟨by rw [Hid, List.length_set, hm], Hrow.out.set _ _, Hok.out.set _ hv, ?_, Hb.out.setCell (Nat.le_refl _) _⟩
 have e := wv_set_end (zs := zr) (off := 0) (k := k) (v := v) (by omega)
 rw [Nat.zero_add] at e
 rw [Hid, e, val_take_succ, val_take_succ, Nat.pow_succ]
 exact sub_step hs Hval.out
theorem rminus_any (A A' : Option Addr) (n c n' c' : Nat) (xs ys : List Nat) (w : World) (h : Sl w w.heap.size A n c xs) (h' : Sl w w.heap.size A' n' c' ys) (hy : Nz ys) (hle : val ys <= val xs) :
 Calls Tryz.prog 187 #[.slice A n c, .slice A' n' c'] w (RetNum (val xs - val ys) w) := by
 have hn : n' <= n := by
  rcases Nat.lt_or_ge n n' with hlt | hge
  . have := val_lt_of_length h.ok hy (by rw [h.len, h'.len]; exact hlt)
    omega
  . exact hge
 have Hle := Lib.hid hle
 clear hle
 have hreach := h.reach
 have Hx := Lib.hid (sl_val h (k := n) (Nat.le_refl _))
 have Hy := Lib.hid (sl_val h' (k := n) hn)
 have hmk := make_any (n : Int) n rfl (by omega)
 have Hrow := Lib.hid (Row.made w n)
 have Hb0 := Lib.hid ((Below.refl w.heap.size w).alloc (Nat.le_refl _) (.cells (zrow n) 44))
 go_enter Tryz.func187, Tryz.ntmps187
 go_wp2
 go_loopw [6, 7] (fun cv iv wr => ∃ (k cy : Nat) (zr : List Nat), k <= n /\ iv = .int .i64 k /\ cv = .int .u64 cy /\ cy <= 1 /\ Hid (zr.length = n) /\ Hid (Row wr w.heap.size zr) /\ Hid (Ok zr) ∧
  Hid (wv zr 0 k + val (ys.take k) = val (xs.take k) + 4294967296 ^ k * cy) /\ Hid (Below w.heap.size w wr)) (fun _ iv _ => n - (intOf iv).toNat)
 case atStart => exact ⟨0, 0, List.replicate n 0, by omega, rfl, rfl, by omega, by rw [Hid, List.length_replicate], Hrow.out, ok_zeros _, by simp [Hid, wv, val], Hb0.out⟩
 case round =>
  obtain ⟨k, cy, zr, hk, rfl, rfl, hcy, Hlen, Hrw, Hok, Hval, Hb⟩ := hrel
  by_cases hkn : k < n
  . have hc1 := Hrw.out.cell (i := k) (by rw [Hlen.out]; exact hkn)
    have hf1 := Hrw.out.free k
    have lx := h.ok.lim k
    have ly := h'.ok.lim k
    obtain ⟨ad, rfl, _, hcx⟩ := (h.below Hb.out).cell hkn
    by_cases k2 : k < n'
    . obtain ⟨ad', rfl, _, hcy'⟩ := (h'.below Hb.out).cell k2
      by_cases hb : lim xs k < cy + lim ys k
      . have R := Lib.hid (rminus_rel (xs := xs) (ys := ys) hkn Hlen.out Hrw Hok Hval Hb (lim xs k + 4294967296 - (cy + lim ys k)) 1 (by omega) (by omega))
        go_wp2
        rw [show ((↑(lim xs k) + 4294967296 - (↑cy + ↑(lim ys k))) : Int) = ((lim xs k + 4294967296 - (cy + lim ys k) : Nat) : Int) by omega]
        exact ⟨⟨k + 1, 1, _, by omega, by go_num, by go_num, by omega, R.out⟩, by simp [intOf]; omega⟩
      . have R := Lib.hid (rminus_rel (xs := xs) (ys := ys) hkn Hlen.out Hrw Hok Hval Hb (lim xs k - (cy + lim ys k)) 0 (by omega) (by omega))
        go_wp2
        rw [show ((↑(lim xs k) - (↑cy + ↑(lim ys k))) : Int) = ((lim xs k - (cy + lim ys k) : Nat) : Int) by omega]
        exact ⟨⟨k + 1, 0, _, by omega, by go_num, by go_num, by omega, R.out⟩, by simp [intOf]; omega⟩
    . have Z := Lib.hid (sl_lim_past h' (k := k) (by omega))
      by_cases hb : lim xs k < cy
      . have R := Lib.hid (rminus_rel (xs := xs) (ys := ys) hkn Hlen.out Hrw Hok Hval Hb (lim xs k + 4294967296 - cy) 1 (by omega) (by rw [Z.out]; omega))
        go_wp2
        rw [show ((↑(lim xs k) + 4294967296 - ↑cy) : Int) = ((lim xs k + 4294967296 - cy : Nat) : Int) by omega]
        exact ⟨⟨k + 1, 1, _, by omega, by go_num, by go_num, by omega, R.out⟩, by simp [intOf]; omega⟩
      . have R := Lib.hid (rminus_rel (xs := xs) (ys := ys) hkn Hlen.out Hrw Hok Hval Hb (lim xs k - cy) 0 (by omega) (by rw [Z.out]; omega))
        go_wp2
        rw [show ((↑(lim xs k) - ↑cy) : Int) = ((lim xs k - cy : Nat) : Int) by omega]
        exact ⟨⟨k + 1, 0, _, by omega, by go_num, by go_num, by omega, R.out⟩, by simp [intOf]; omega⟩
  . obtain rfl : k = n := by omega
    have hz := Hrw.out.lt
    have hsl := Hrw.out.sl (B := wr.heap.size) (n := k) (c := k) hz 0 (by rw [Hlen.out]; omega) (Nat.le_refl _) (by omega) Hok.out
    rw [List.drop_zero, List.take_of_length_le (by rw [Hlen.out]; omega)] at hsl
    have He : Hid (val zr = val xs - val ys) := by
     have a := Hval.out
     rw [Hx.out, Hy.out, wv_all zr (by rw [Hlen.out]; omega)] at a
     have b := val_lt Hok.out
     rw [Hlen.out] at b
     have c := Hle.out
     rcases Nat.lt_or_ge cy 1 with h1 | h1
     . obtain rfl : cy = 0 := by omega
       show val zr = val xs - val ys
       omega
     . obtain rfl : cy = 1 := by omega
       show val zr = val xs - val ys
       omega
    go_wp2_with fail
    refine (rtrim_any _ _ _ _ zr wr hsl).mono ?_
    rintro e w3 ⟨⟨j, hj, rfl, hnz, hv⟩, rfl⟩
    have HV := Lib.hid hv
    clear hv
    go_wp2
    go_ret
    exact ⟨_, _, _, _, rfl, hsl.to hj, hnz, by rw [HV.out]; exact He.out, Hb.out⟩
end Go.Proofs.YtmncfbfepdbioaaGreatDoor
namespace Go.Proofs.YtmncfbfepdbioaaGreatDoor
open Go.RowKit
theorem fit_f (A : Option Addr) (n c : Nat) (xs : List Nat) (w : World) (h : Sl w w.heap.size A n c xs) (hx : Nz xs) (h1 : n <= 128) :
 Calls Tryz.prog 181 #[.bool false, .slice A n c] w (RetIE (sg false (val xs)) 0 w) := by
 have Hb := Lib.hid (below_new w (.cells #[.bool false, .slice none 0 0] 25))
 have Ha := Lib.hid (sg_abs false (val xs))
 have Hd := Lib.hid (show false = decide (sg false (val xs) < 0) by rw [sg_false]; simp)
 have h2 : (n : Int) <= 128 := by omega
 go_enter Tryz.func181, Tryz.ntmps181
 go_wp2_with fail
 have hs := h.on Hb.out
 have bx := Bx.new w false none 0 0
 generalize hW : World.alloc w _ = V at *
 clear hW
 refine (rtrim_any _ _ _ _ xs _ hs).mono ?_
 rintro e w3 ⟨⟨k, hk, rfl, hnz, hv⟩, rfl⟩
 have e0 : List.take k xs = xs := uniq (hs.ok.take k) hs.ok hnz hx hv
 have hkn : k = n := by
  have a := congrArg List.length e0
  rw [List.length_take, hs.len] at a
  omega
 subst hkn
 clear e0 hv hnz hk
 have Hbx := Lib.hid bx
 have be := below_new V (.cells #[] 44)
 have He := Lib.hid (Blk.new V 44 #[])
 have Hs := Lib.hid (hs.on be)
 have Hx := Lib.hid (bx.alloc (.cells #[] 44))
 have HB := Lib.hid (below_chain Hb.out Hb.out.size be)
 have hz := bx.lt
 have hzz : w.heap.size ≠ V.heap.size := by omega
 clear bx be
 go_wp2_with (at_builtin; refine copy_app rfl _ _ rfl V.heap.size k c _ _ xs rfl He.out rfl Hs.out ?_; intro A' c' w' hs' hg'; have hx' : Bx w' w.heap.size false none 0 0 := Blk.grown Hx.out hg' (by simpa using hzz); have m0 := hx'.c0; have m1 := hx'.c1; have m2 := hx'.f 0; have m3 := hx'.f 1)
 exact bodyPost_ret (v := .tuple #[.agg #[.bool false, .slice A' k c'], .int .i64 0]) (by simp [results, Tryz.results181, go_sem, m0, m1]) rfl
  ⟨A', k, c', xs, by rw [<- Hd.out], hs'.ret hx' _ _, hx, Ha.out.symm, below_ret (below_grown HB.out hg' (by omega) (by have := HB.out.size; omega)) (Nat.le_refl _) _ _⟩
theorem fit_t (A : Option Addr) (n c : Nat) (xs : List Nat) (w : World) (h : Sl w w.heap.size A n c xs) (hx : Nz xs) (h1 : n <= 128) (hp : 0 < n) :
 Calls Tryz.prog 181 #[.bool true, .slice A n c] w (RetIE (sg true (val xs)) 0 w) := by
 have Hb := Lib.hid (below_new w (.cells #[.bool false, .slice none 0 0] 25))
 have Ha := Lib.hid (sg_abs true (val xs))
 have Hd := Lib.hid (show true = decide (sg true (val xs) < 0) by
  have hp' : 0 < val xs := val_pos hx (by rintro rfl; have := h.len; simp at this; omega)
  rw [sg_true]; simp; omega)
 have hp2 : 0 < (n : Int) := by omega
 have h2 : (n : Int) <= 128 := by omega
 go_enter Tryz.func181, Tryz.ntmps181
 go_wp2_with fail
 have hs := h.on Hb.out
 have bx := Bx.new w false none 0 0
 generalize hW : World.alloc w _ = V at *
 clear hW
 refine (rtrim_any _ _ _ _ xs _ hs).mono ?_
 rintro e w3 ⟨⟨k, hk, rfl, hnz, hv⟩, rfl⟩
 have e0 : List.take k xs = xs := uniq (hs.ok.take k) hs.ok hnz hx hv
 have hkn : k = n := by
  have a := congrArg List.length e0
  rw [List.length_take, hs.len] at a
  omega
 subst hkn
 clear e0 hv hnz hk
 have Hbx := Lib.hid bx
 have be := below_new V (.cells #[] 44)
 have He := Lib.hid (Blk.new V 44 #[])
 have Hs := Lib.hid (hs.on be)
 have Hx := Lib.hid (bx.alloc (.cells #[] 44))
 have HB := Lib.hid (below_chain Hb.out Hb.out.size be)
 have hz := bx.lt
 have hzz : w.heap.size ≠ V.heap.size := by omega
 clear bx be
 go_wp2_with (at_builtin; refine copy_app rfl _ _ rfl V.heap.size k c _ _ xs rfl He.out rfl Hs.out ?_; intro A' c' w' hs' hg'; have hx' : Bx w' w.heap.size false none 0 0 := Blk.grown Hx.out hg' (by simpa using hzz); have m0 := hx'.c0; have m1 := hx'.c1; have m2 := hx'.f 0; have m3 := hx'.f 1)
 exact bodyPost_ret (v := .tuple #[.agg #[.bool true, .slice A' k c'], .int .i64 0]) (by simp [results, Tryz.results181, go_sem, m0, m1]) rfl
  ⟨A', k, c', xs, by rw [<- Hd.out], hs'.ret hx' _ _, hx, Ha.out.symm, below_ret (below_grown HB.out hg' (by omega) (by have := HB.out.size; omega)) (Nat.le_refl _) _ _⟩
theorem fit_z (A : Option Addr) (c : Nat) (w : World) (h : Sl w w.heap.size A 0 c []) :
 Calls Tryz.prog 181 #[.bool true, .slice A 0 c] w (RetIE (sg true (val [])) 0 w) := by
 have Hb := Lib.hid (below_new w (.cells #[.bool false, .slice none 0 0] 25))
 have Ha := Lib.hid (sg_abs true (val []))
 have hx : Nz [] := Nz.nil
 have Hd := Lib.hid (show false = decide (sg true (val []) < 0) by rw [sg_true]; simp [val])
 go_enter Tryz.func181, Tryz.ntmps181
 go_wp2_with fail
 have hs := h.on Hb.out
 have bx := Bx.new w false none 0 0
 generalize hW : World.alloc w _ = V at *
 clear hW
 refine (rtrim_any _ _ _ _ [] _ hs).mono ?_
 rintro e w3 ⟨⟨k, hk, rfl, hnz, hv⟩, rfl⟩
 have e0 : List.take k [] = [] := uniq (hs.ok.take k) hs.ok hnz hx hv
 have hkn : k = 0 := by
  have a := congrArg List.length e0
  rw [List.length_take, hs.len] at a
  omega
 subst hkn
 clear e0 hv hnz hk
 have Hbx := Lib.hid bx
 have be := below_new V (.cells #[] 44)
 have He := Lib.hid (Blk.new V 44 #[])
 have Hs := Lib.hid (hs.on be)
 have Hx := Lib.hid (bx.alloc (.cells #[] 44))
 have HB := Lib.hid (below_chain Hb.out Hb.out.size be)
 have hz := bx.lt
 have hzz : w.heap.size ≠ V.heap.size := by omega
 clear bx be
 go_wp2_with (at_builtin; refine copy_app rfl _ _ rfl V.heap.size 0 c _ _ [] rfl He.out rfl Hs.out ?_; intro A' c' w' hs' hg'; have hx' : Bx w' w.heap.size false none 0 0 := Blk.grown Hx.out hg' (by simpa using hzz); have m0 := hx'.c0; have m1 := hx'.c1; have m2 := hx'.f 0; have m3 := hx'.f 1)
 exact bodyPost_ret (v := .tuple #[.agg #[.bool false, .slice A' 0 c'], .int .i64 0]) (by simp [results, Tryz.results181, go_sem, m0, m1]) rfl
  ⟨A', 0, c', [], by rw [<- Hd.out], hs'.ret hx' _ _, hx, Ha.out.symm, below_ret (below_grown HB.out hg' (by omega) (by have := HB.out.size; omega)) (Nat.le_refl _) _ _⟩
theorem fit_no_walk (neg : Bool) (A : Option Addr) (n c : Nat) (xs : List Nat) (w : World) (h : Sl w w.heap.size A n c xs) (hx : Nz xs) (h1 : 128 < n) :
 Calls Tryz.prog 181 #[.bool neg, .slice A n c] w (RetIE 0 2 w) := by
 have Hb := Lib.hid (below_new w (.cells #[.bool false, .slice none 0 0] 25))
 have h2 : 128 < (n : Int) := by omega
 go_enter Tryz.func181, Tryz.ntmps181
 go_wp2_with fail
 have hs := h.on Hb.out
 have bx := Bx.new w false none 0 0
 generalize hW : World.alloc w _ = V at *
 clear hW
 refine (rtrim_any _ _ _ _ xs _ hs).mono ?_
 rintro e w3 ⟨⟨k, hk, rfl, hnz, hv⟩, rfl⟩
 have e0 : List.take k xs = xs := uniq (hs.ok.take k) hs.ok hnz hx hv
 have hkn : k = n := by
  have a := congrArg List.length e0
  rw [List.length_take, hs.len] at a
  omega
 subst hkn
 clear e0 hv hnz hk
 have Hbx := Lib.hid bx
 have m0 := bx.c0
 have m1 := bx.c1
 have m2 := bx.f 0
 have m3 := bx.f 1
 go_wp2
 exact bodyPost_ret (v := .tuple #[.agg #[.bool false, .slice none 0 0], .int .i64 2]) (by simp [results, Tryz.results181, go_sem, m0, m1]) rfl
  ⟨none, 0, 0, [], rfl, Sl.nil _ _, Nz.nil, rfl, below_ret Hb.out (Nat.le_refl _) _ _⟩
theorem fit_any (neg : Bool) (A : Option Addr) (n c : Nat) (xs : List Nat) (w : World) (h : Sl w w.heap.size A n c xs) (hx : Nz xs) :
 Calls Tryz.prog 181 #[.bool neg, .slice A n c] w (RetIE (fitZ (sg neg (val xs))) (fitE (sg neg (val xs))) w) := by
 by_cases h1 : n <= 128
 . have hf := fit_yes (z := sg neg (val xs)) (by rw [sg_abs, big_iff h.ok hx, h.len]; omega)
   rw [hf.1, hf.2]
   cases neg with
   | false => exact fit_f A n c xs w h hx h1
   | true =>
     rcases Nat.eq_zero_or_pos n with h0 | h0
     . subst h0
       obtain rfl : xs = [] := List.eq_nil_of_length_eq_zero h.len
       exact fit_z A c w h
     . exact fit_t A n c xs w h hx h1 h0
 . have hf := fit_no (z := sg neg (val xs)) (by rw [sg_abs, big_iff h.ok hx, h.len]; omega)
   rw [hf.1, hf.2]
   exact fit_no_walk neg A n c xs w h hx (by omega)
end Go.Proofs.YtmncfbfepdbioaaGreatDoor
namespace Go.Proofs.YtmncfbfepdbioaaGreatDoor
open Go.RowKit
theorem left_rel {w wr : World} {zr xs : List Nat} {g l n t k p : Nat} (hp : p = l + k) (hx : Ok xs) (ht : t < 32) (hk : k < n) (Hlen : Hid (zr.length = l + n + 1)) (Hrw : Hid (Row wr g zr)) (Hok : Hid (Ok zr))
 (Hlow : Hid (∀ i, i < l -> lim zr i = 0)) (Hval : Hid (wv zr l (k + 1) = val (xs.take k) * 2 ^ t)) (Htop : Hid (lim zr p < 2 ^ t)) (Hb : Hid (Below g w wr)) (v u : Nat) (hv : v = lim zr p + lim xs k * 2 ^ t % 4294967296) (hu : u = lim xs k * 2 ^ t / 4294967296) :
 Hid (((zr.set p v).set (p + 1) u).length = l + n + 1) /\ Hid (Row ((wr.setCell ⟨g, p, none⟩ (.int .u32 (v : Int))).setCell ⟨g, p + 1, none⟩ (.int .u32 (u : Int))) g ((zr.set p v).set (p + 1) u)) ∧
 Hid (Ok ((zr.set p v).set (p + 1) u)) /\ Hid (∀ i, i < l -> lim ((zr.set p v).set (p + 1) u) i = 0) /\ Hid (wv ((zr.set p v).set (p + 1) u) l (k + 1 + 1) = val (xs.take (k + 1)) * 2 ^ t) /\ Hid (lim ((zr.set p v).set (p + 1) u) (p + 1) < 2 ^ t) ∧
 Hid (Below g w ((wr.setCell ⟨g, p, none⟩ (.int .u32 (v : Int))).setCell ⟨g, p + 1, none⟩ (.int .u32 (u : Int)))) := by
 subst hp
 have hxk := hx.lim k
 have hu2 : u < 2 ^ t := by rw [hu]; exact high_mul hxk
 have hpt : 2 ^ t <= 2 ^ 31 := Nat.pow_le_pow_right (by decide) (by omega)
 have hu' : u < 4294967296 := by omega
 have hv' : v < 4294967296 := by
  have b := low_mul (x := lim xs k) (t := t) (by omega)
  have c : lim xs k * 2 ^ t % 4294967296 < 4294967296 := Nat.mod_lt _ (by decide)
  have e : (4294967296 : Nat) = 2 ^ t * 2 ^ (32 - t) := by rw [<- Nat.pow_add, show t + (32 - t) = 32 by omega]
  have a := Htop.out
  rw [hv]
  generalize lim xs k * 2 ^ t % 4294967296 = y at *
  generalize lim zr (l + k) = z at *
  have d := Nat.div_add_mod y (2 ^ t)
  rw [b, Nat.add_zero] at d
  have f : y / 2 ^ t < 2 ^ (32 - t) := by
   rw [Nat.div_lt_iff_lt_mul (Nat.pow_pos (by decide)), Nat.mul_comm, <- e]; exact c
  have g1 : 2 ^ t * (y / 2 ^ t + 1) <= 2 ^ t * 2 ^ (32 - t) := Nat.mul_le_mul_left _ f
  rw [Nat.mul_add, d, <- e] at g1
  omega
 have l1 : l + k < zr.length := by rw [Hlen.out]; omega
 have l2 : l + k + 1 < (zr.set (l + k) v).length := by rw [List.length_set, Hlen.out]; omega
 refine ⟨by rw [Hid, List.length_set, List.length_set, Hlen.out], (Hrw.out.set _ _).set _ _, (Hok.out.set _ hv').set _ hu', fun i hi => ?_, ?_, ?_, (Hb.out.setCell (Nat.le_refl _) _).setCell (Nat.le_refl _) _⟩
 . rw [lim_set_ne (by omega), lim_set_ne (by omega)]; exact Hlow.out i hi
 . have e1 := wv_set_end (zs := zr.set (l + k) v) (off := l) (k := k + 1) (v := u) (by rw [<- Nat.add_assoc]; exact l2)
   have e2 := wv_set_end (zs := zr) (off := l) (k := k) (v := v) l1
   have e3 := wv_succ zr l k
   rw [Nat.add_assoc l k 1]
   rw [Hid, e1, e2, val_take_succ, Nat.add_mul, <- Hval.out, e3, hv, hu, Nat.pow_succ]
   have dm := Nat.div_add_mod (lim xs k * 2 ^ t) 4294967296
   generalize 4294967296 ^ k = P
   rw [show P * lim xs k * 2 ^ t = P * (lim xs k * 2 ^ t) by rw [Nat.mul_assoc], <- dm]
   rw [dm]
   generalize lim xs k * 2 ^ t % 4294967296 = y at *
   generalize lim xs k * 2 ^ t / 4294967296 = z at *
   rw [<- dm, Nat.mul_add, Nat.mul_add, <- Nat.mul_assoc P 4294967296 z]
   omega
 . rw [Hid, lim_set_eq l2]; exact hu2
theorem rleft_any (A : Option Addr) (n c s l t : Nat) (xs : List Nat) (w : World) (h : Sl w w.heap.size A n c xs) (hn : n <= 1000000) (hs : s <= 1000000) (hl : (s : Int) / 32 = (l : Int)) (ht : (s : Int) % 32 = (t : Int)) :
 Calls Tryz.prog 188 #[.slice A n c, .int .i64 (s : Int)] w (RetNum (val xs * 2 ^ s) w) := by
 have hcap := h.cap
 have hcr := h.capr
 have Hst := Lib.hid (show s = 32 * l + t /\ t < 32 by omega)
 have hlb : l <= 1000000 := by omega
 have hmk := make_any ((n : Int) + (l : Int) + 1) (n + l + 1) (by omega) (by omega)
 have Hrow := Lib.hid (Row.made w (n + l + 1))
 have Hl := Lib.hid h.len
 have Hb0 := Lib.hid ((Below.refl w.heap.size w).alloc (Nat.le_refl _) (.cells (zrow (n + l + 1)) 44))
 have hmod : (s : Int) % 32 = (t : Int) := ht
 go_enter Tryz.func188, Tryz.ntmps188
 go_wp2
 go_loopw [6, 7] (fun iv sv wr => ∃ (k : Nat) (zr : List Nat), k <= n /\ iv = .int .i64 k /\ Hid (zr.length = l + n + 1) /\ Hid (Row wr w.heap.size zr) /\ Hid (Ok zr) /\ Hid (∀ i, i < l -> lim zr i = 0) ∧
  Hid (wv zr l (k + 1) = val (xs.take k) * 2 ^ t) /\ Hid (lim zr (l + k) < 2 ^ t) /\ Hid (Below w.heap.size w wr)) (fun iv _ _ => n - (intOf iv).toNat)
 case atStart =>
  refine ⟨0, _, by omega, rfl, ?_, Hrow.out, ok_zeros _, fun i _ => lim_zeros _ _, ?_, ?_, Hb0.out⟩
  . rw [Hid, List.length_replicate]; omega
  . rw [Hid, wv_zeros, List.take_zero, val_nil, Nat.zero_mul]
  . rw [Hid, lim_zeros]; exact Nat.pow_pos (by decide)
 case round =>
  obtain ⟨k, zr, hk, rfl, Hlen, Hrw, Hok, Hlow, Hval, Htop, Hb⟩ := hrel
  by_cases hkn : k < n
  . obtain ⟨p, hp⟩ : ∃ p, p = l + k := ⟨_, rfl⟩
    rw [<- hp] at Htop
    have hxk := h.ok.lim k
    obtain ⟨ad, rfl, hadb, hc1⟩ := (h.below Hb.out).cell hkn
    have hlp : p + 1 < zr.length := by rw [Hlen.out]; omega
    have hc2 := Hrw.out.cell (i := p) (by omega)
    have hf2 := Hrw.out.free p
    have hc3 := Hrw.out.cell hlp
    have hf3 := Hrw.out.free (p + 1)
    have j1 : (k : Int) + (l : Int) = (p : Int) := by omega
    have j4 : (p : Int) < ((n + l + 1 : Nat) : Int) := by omega
    have j5 : (p : Int) + 1 < ((n + l + 1 : Nat) : Int) := by omega
    have j6 : (k : Int) < (n : Int) := by omega
    have j7 := shl_cast (lim xs k) t hxk Hst.out.2
    have HJ := Lib.hid hp
    clear hp
    go_wp2
    have cx : (↑(lim xs k) * 2 ^ t : Int) = ((lim xs k * 2 ^ t : Nat) : Int) := by rw [Int.natCast_mul, Int.natCast_pow]; rfl
    have hhi := high_mul (t := t) hxk
    have hpw : 2 ^ t <= 2 ^ 31 := Nat.pow_le_pow_right (by decide) (by have := Hst.out.2; omega)
    have c3 := (or_low t (lim zr p) (lim xs k * 2 ^ t % 4294967296) Htop.out (low_mul (by have := Hst.out.2; omega)) (by have := Htop.out; omega) (Nat.mod_lt _ (by decide))).1
    have c4 : IntKind.u64.wrap ((lim xs k * 2 ^ t / 4294967296 : Nat) : Int) % 4294967296 = ((lim xs k * 2 ^ t / 4294967296 : Nat) : Int) := wrap_small (by omega)
    have c1 : ((lim xs k * 2 ^ t : Nat) : Int) % 4294967296 = ((lim xs k * 2 ^ t % 4294967296 : Nat) : Int) := by omega
    have c2 : ((lim xs k * 2 ^ t : Nat) : Int).tdiv 4294967296 = ((lim xs k * 2 ^ t / 4294967296 : Nat) : Int) := tdiv_cast _ 4294967296
    rw [cx, c2, c1, c3, c4]
    have R := left_rel HJ.out h.ok Hst.out.2 hkn Hlen Hrw Hok Hlow Hval Htop Hb _ _ rfl rfl
    exact ⟨⟨k + 1, _, by omega, by go_num, R.1, R.2.1, R.2.2.1, R.2.2.2.1, R.2.2.2.2.1, (by rw [show l + (k + 1) = p + 1 by have := HJ.out; omega]; exact R.2.2.2.2.2.1), R.2.2.2.2.2.2⟩, by simp [intOf]; omega⟩
  . obtain rfl : k = n := by omega
    have hz := Hrw.out.lt
    have hsz := Hrw.out.sl (B := wr.heap.size) (n := k + l + 1) (c := k + l + 1) hz 0 (by rw [Hlen.out]; omega) (Nat.le_refl _) (by omega) Hok.out
    rw [List.drop_zero, List.take_of_length_le (by rw [Hlen.out]; omega)] at hsz
    have He := Lib.hid (shl_end Hst.out.1 Hlen.out Hlow.out (by have := Hval.out; rwa [List.take_of_length_le (by rw [Hl.out]; omega)] at this))
    go_wp2_with fail
    refine (rtrim_any _ _ _ _ zr wr hsz).mono ?_
    rintro e w3 ⟨⟨j, hj, rfl, hnz, hv⟩, rfl⟩
    have HV := Lib.hid hv
    clear hv
    go_wp2
    go_ret
    exact ⟨_, _, _, _, rfl, hsz.to hj, hnz, by rw [HV.out]; exact He.out, Hb.out⟩
end Go.Proofs.YtmncfbfepdbioaaGreatDoor
namespace Go.Proofs.YtmncfbfepdbioaaGreatDoor
open Go.RowKit
theorem trim_len (xs : List Nat) : ∀ n, n <= xs.length -> ∃ k, k <= n /\ Nz (xs.take k) /\ val (xs.take k) = val (xs.take n) := by
 intro n
 induction n with
 | zero => exact fun _ => ⟨0, Nat.le_refl _, by simp [Nz], rfl⟩
 | succ n ih =>
   intro hn
   by_cases h0 : lim xs n = 0
   . obtain ⟨k, h1, h2, h3⟩ := ih (by omega)
     exact ⟨k, by omega, h2, by rw [h3, val_drop_last xs n h0]⟩
   . exact ⟨n + 1, Nat.le_refl _, nz_take (.inr ⟨hn, by simpa using h0⟩), rfl⟩
theorem rtrim_at (A : Option Addr) (n c B k : Nat) (xs : List Nat) (w : World) (h : Sl w B A n c xs) (hk : k <= n) (nz : Nz (xs.take k)) (hv : val (xs.take k) = val xs) :
 Calls Tryz.prog 153 #[.slice A n c] w fun e w' => e = .returned (.slice A k c) /\ w' = w := by
 refine (rtrim_any A n c B xs w h).mono ?_
 rintro e w' ⟨⟨j, hj, rfl, nj, vj⟩, rfl⟩
 have e1 := uniq (h.ok.take j) (h.ok.take k) nj nz (vj.trans hv.symm)
 have e2 := congrArg List.length e1
 rw [List.length_take, List.length_take, h.len] at e2
 have e3 : j = k := by omega
 subst e3
 exact ⟨rfl, rfl⟩
theorem take_ne0 (xs : List Nat) (k : Nat) : val (xs.take (k + 1)) ≠ 0 ↔ val (xs.take k) ≠ 0 \/ lim xs k ≠ 0 := by
 rw [val_take_succ]
 have p := pow_pos' k
 constructor
 . intro h
   by_cases h1 : val (xs.take k) = 0
   . right
     intro h2
     rw [h1, h2] at h
     simp at h
   . exact .inl h1
 . rintro (h | h)
   . omega
   . have := Nat.mul_pos p (Nat.pos_of_ne_zero h)
     omega
theorem lost_step_f (xs : List Nat) (k : Nat) (h : ¬ val (xs.take k) ≠ 0) : ((lim xs k : Int) != 0) = decide (val (xs.take (k + 1)) ≠ 0) := by
 have e := take_ne0 xs k
 by_cases h1 : lim xs k = 0
 . rw [decide_eq_false (fun h2 => (e.1 h2).elim h (fun h3 => h3 h1)), h1]; rfl
 . rw [decide_eq_true (e.2 (.inr h1)), bne_iff_ne]; omega
theorem lost_step_t (xs : List Nat) (k : Nat) (h : val (xs.take k) ≠ 0) : true = decide (val (xs.take (k + 1)) ≠ 0) :=
 (decide_eq_true ((take_ne0 xs k).2 (.inl h))).symm
theorem lost_iff {xs : List Nat} {s l t : Nat} (hx : Ok xs) (hl : l < xs.length) (ht : t < 32) (hs : s = 32 * l + t) : val xs % 2 ^ s ≠ 0 ↔ val (xs.take l) ≠ 0 \/ lim xs l % 2 ^ t ≠ 0 := by
 have e1 : (2 : Nat) ^ s = 4294967296 ^ l * 2 ^ t := by rw [hs, Nat.pow_add, Nat.pow_mul]
 have hd := val_drop xs l hl
 have hlt := val_lt (hx.take l)
 rw [List.length_take, Nat.min_eq_left (by omega)] at hlt
 have p := pow_pos' l
 have m1 : val xs % 4294967296 ^ l = val (xs.take l) := by
  rw [val_take_drop xs l (by omega), Nat.add_mul_mod_self_left, Nat.mod_eq_of_lt hlt]
 have d1 : val xs / 4294967296 ^ l = val (xs.drop l) := by
  rw [val_take_drop xs l (by omega), Nat.add_mul_div_left _ _ p, Nat.div_eq_of_lt hlt, Nat.zero_add]
 have m2 : val (xs.drop l) % 2 ^ t = lim xs l % 2 ^ t := by
  rw [hd, show (4294967296 : Nat) = 2 ^ t * 2 ^ (32 - t) by rw [<- Nat.pow_add, show t + (32 - t) = 32 by omega], Nat.mul_assoc, Nat.add_mul_mod_self_left]
 rw [e1, Nat.mod_mul, m1, d1, m2]
 constructor
 . intro h
   by_cases h1 : val (xs.take l) = 0
   . right
     intro h2
     rw [h1, h2] at h
     simp at h
   . exact .inl h1
 . rintro (h | h)
   . omega
   . have := Nat.mul_pos p (Nat.pos_of_ne_zero h)
     omega
def RetNumB (N : Nat) (b : Bool) (w : World) (e : Ending) (w' : World) : Prop := ∃ A n c xs, e = .returned (.tuple #[.slice A n c, .bool b]) /\ Sl w' w'.heap.size A n c xs /\ Nz xs /\ val xs = N /\ Below w.heap.size w w'
theorem rright_far (A : Option Addr) (n c s l : Nat) (xs : List Nat) (w : World) (h : Sl w w.heap.size A n c xs) (hx : Nz xs) (hs : s <= 1000000) (hl : (s : Int) / 32 = (l : Int)) (hln : n <= l) :
 Calls Tryz.prog 206 #[.slice A n c, .int .i64 (s : Int)] w (RetNumB (val xs / 2 ^ s) (decide (val xs % 2 ^ s ≠ 0)) w) := by
 have hlt : val xs < 2 ^ s := by
  refine Nat.lt_of_lt_of_le (val_lt h.ok) ?_
  rw [show (4294967296 : Nat) = 2 ^ 32 by decide, <- Nat.pow_mul, h.len]
  exact Nat.pow_le_pow_right (by decide) (by omega)
 rw [Nat.div_eq_of_lt hlt, Nat.mod_eq_of_lt hlt]
 have Hd : Hid (decide (val xs ≠ 0) = decide (0 < (n : Int))) := by
  rw [Hid, decide_eq_decide]
  constructor
  . intro h1
    rcases Nat.eq_zero_or_pos n with e | e
    . have : xs = [] := List.eq_nil_of_length_eq_zero (by rw [h.len]; exact e)
      rw [this] at h1; exact absurd val_nil h1
    . omega
  . intro h1 h2
    have := val_zero hx h2
    rw [this] at h
    have := h.len
    simp at this; omega
 clear hlt
 have hcap := h.cap
 have hcr := h.capr
 by_cases h0 : n = 0
 . subst h0
   have Hd' : Hid (decide (val xs ≠ 0) = false) := Hd.out
   rw [Hd'.out]
   clear Hd Hd'
   go_enter Tryz.func206, Tryz.ntmps206
   go_wp2
   go_ret2
   exact ⟨none, 0, 0, [], rfl, Sl.nil _ _, Nz.nil, rfl, Below.refl _ _⟩
 . have hp : decide (0 < (n : Int)) = true := by rw [decide_eq_true_iff]; omega
   rw [Hd.out, hp]
   clear Hd
   have hp2 : 0 < n := by omega
   have hp3 : 0 < (n : Int) := by omega
   go_enter Tryz.func206, Tryz.ntmps206
   go_wp2
   go_ret2
   exact ⟨none, 0, 0, [], rfl, Sl.nil _ _, Nz.nil, rfl, Below.refl _ _⟩
theorem fresh_below' (w : World) (o : Obj) : Below w.heap.size w (w.alloc o) := (Below.refl _ _).alloc (Nat.le_refl _) _
theorem right_rel {w wr : World} {zr xs : List Nat} {g k m l t : Nat} (hx : Ok xs) (ht : t <= 32) (hkm : k < m) (Hlen : Hid (zr.length = m)) (Hrw : Hid (Row wr g zr)) (Hok : Hid (Ok zr))
 (Hdone : Hid (∀ i, i < k -> lim zr i = val (xs.drop l) / 2 ^ t / 4294967296 ^ i % 4294967296)) (Hb : Hid (Below g w wr)) (X : Nat) (hX : X = lim xs (l + k) + 4294967296 * lim xs (l + k + 1)) :
 Hid ((zr.set k (X / 2 ^ t % 4294967296)).length = m) /\ Hid (Row (wr.setCell ⟨g, k, none⟩ (.int .u32 ((X / 2 ^ t % 4294967296 : Nat) : Int))) g (zr.set k (X / 2 ^ t % 4294967296))) /\ Hid (Ok (zr.set k (X / 2 ^ t % 4294967296))) ∧
 Hid (∀ i, i < k + 1 -> lim (zr.set k (X / 2 ^ t % 4294967296)) i = val (xs.drop l) / 2 ^ t / 4294967296 ^ i % 4294967296) ∧
 Hid (Below g w (wr.setCell ⟨g, k, none⟩ (.int .u32 ((X / 2 ^ t % 4294967296 : Nat) : Int)))) := by
 refine ⟨by rw [Hid, List.length_set, Hlen.out], Hrw.out.set _ _, Hok.out.set _ (Nat.mod_lt _ (by decide)), fun i hi => ?_, Hb.out.setCell (Nat.le_refl _) _⟩
 by_cases hik : i = k
 . subst hik
   rw [lim_set_eq (by rw [Hlen.out]; exact hkm), hX, <- lim_drop, Nat.add_assoc, <- lim_drop, lim_digit (hx.drop l) i, lim_digit (hx.drop l) (i + 1)]
   exact shr_limb _ _ _ ht
 . rw [lim_set_ne (by omega)]; exact Hdone.out i (by omega)
theorem rright_near (A : Option Addr) (n c s l t : Nat) (xs : List Nat) (w : World) (h : Sl w w.heap.size A n c xs) (hs : s <= 1000000) (hn : n <= 1000000) (hl : (s : Int) / 32 = (l : Int)) (ht : (s : Int) % 32 = (t : Int)) (hln : l < n) (b : Bool) (hb : decide (val xs % 2 ^ s ≠ 0) = b) :
 Calls Tryz.prog 206 #[.slice A n c, .int .i64 (s : Int)] w (RetNumB (val xs / 2 ^ s) b w) := by
 have hcap := h.cap
 have hcr := h.capr
 have Hst := Lib.hid (show s = 32 * l + t /\ t < 32 by omega)
 have Hlost := Lib.hid (lost_iff h.ok (by rw [h.len]; exact hln) Hst.out.2 Hst.out.1)
 have HBL := Lib.hid hb
 clear hb
 have Hend := Lib.hid (fun zr hlen hdig => shr_end (s := s) (l := l) (t := t) (zr := zr) h.ok (by rw [h.len]; exact hln) Hst.out.1 hlen hdig)
 rw [h.len] at Hend
 obtain ⟨m, hm⟩ : ∃ m, m + l = n := ⟨n - l, by omega⟩
 have hm1 : (n : Int) - (l : Int) = (m : Int) := by omega
 rw [show n - l = m by omega] at Hend
 have hmk := make_any (m : Int) m rfl (by omega)
 have Hl := Lib.hid h.len
 have Hm := Lib.hid hm
 clear hm
 go_enter Tryz.func206, Tryz.ntmps206
 go_wp2
 go_loop [6, 7] (fun bv iv => ∃ (k : Nat) (q : Bool), k <= l /\ iv = .int .i64 k /\ bv = .bool q /\ Hid (q = decide (val (xs.take k) ≠ 0))) (fun _ iv => l - (intOf iv).toNat)
 case atStart => exact ⟨0, false, by omega, rfl, rfl, by rw [Hid, List.take_zero, val_nil]; rfl⟩
 case round =>
  obtain ⟨k, q, hk, rfl, rfl, Hq⟩ := hrel
  by_cases hkl : k < l
  . have j1 : (k : Int) < (l : Int) := by omega
    obtain ⟨ad, rfl, hadb, hc1⟩ := h.cell (k := k) (by omega)
    cases q
    . have H0 := Lib.hid (lost_step_f xs k (of_decide_eq_false Hq.out.symm))
      go_wp2
      go_round
      case rel => exact ⟨k + 1, _, by omega, by go_num, rfl, H0.out⟩
      case measure => simp [intOf]; omega
    . have H0 := Lib.hid (lost_step_t xs k (of_decide_eq_true Hq.out.symm))
      go_wp2
      go_round
      case rel => exact ⟨k + 1, _, by omega, by go_num, rfl, H0.out⟩
      case measure => simp [intOf]; omega
  . obtain rfl : k = l := by omega
    have Hb0 := Lib.hid (fresh_below' w (.cells (zrow m) 44))
    have Hr0 := Lib.hid (Row.made w m)
    go_wp2
    go_loopw [9, 10] (fun iv _ wr => ∃ (i : Nat) (zr : List Nat), i <= m /\ iv = .int .i64 i /\ Hid (zr.length = m) /\ Hid (Row wr w.heap.size zr) /\ Hid (Ok zr) ∧
     Hid (∀ j, j < i -> lim zr j = val (xs.drop k) / 2 ^ t / 4294967296 ^ j % 4294967296) /\ Hid (Below w.heap.size w wr)) (fun iv _ _ => m - (intOf iv).toNat)
    case atStart => exact ⟨0, _, by omega, rfl, List.length_replicate, Hr0.out, ok_zeros _, fun j hj => absurd hj (by omega), Hb0.out⟩
    case round =>
     obtain ⟨i, zr, hi, rfl, Hlen, Hrw, Hok, Hdone, Hb⟩ := hrel
     by_cases him : i < m
     . obtain ⟨p, hp⟩ : ∃ p, p = k + i := ⟨_, rfl⟩
       have hpn : p < n := by have := Hm.out; omega
       have j1 : (i : Int) + (k : Int) = (p : Int) := by omega
       have j2 : (p : Int) < (n : Int) := by omega
       have j3 : (i : Int) < (m : Int) := by omega
       have hc1 := Hrw.out.cell (i := i) (by rw [Hlen.out]; exact him)
       have hf1 := Hrw.out.free i
       have x1 := h.ok.lim p
       have x2 := h.ok.lim (p + 1)
       obtain ⟨ad, rfl, hadb, hc2⟩ := (h.below Hb.out).cell (k := p) hpn
       have HP := Lib.hid hp
       by_cases hp1 : p + 1 < n
       . obtain ⟨p2, hp2⟩ : ∃ p2, p2 = p + 1 := ⟨_, rfl⟩
         obtain ⟨ad', e', _, hc3⟩ := (h.below Hb.out).cell (k := p2) (by omega)
         injection e' with e'
         subst e'
         have R := Lib.hid (right_rel (l := k) (g := w.heap.size) h.ok (show t <= 32 by have := Hst.out.2; omega) him Hlen Hrw Hok Hdone Hb (lim xs p + 4294967296 * lim xs p2) (by rw [hp2, hp]))
         have j4 : (p : Int) + 1 = (p2 : Int) := by omega
         have j5 : (p2 : Int) < (n : Int) := by omega
         rw [<- hp2] at x2
         clear hp hp2
         go_wp2
         rw [show ((lim xs p : Int) + ↑(lim xs p2) * 4294967296) = ((lim xs p + 4294967296 * lim xs p2 : Nat) : Int) by omega, shr_cast]
         exact ⟨⟨i + 1, _, by omega, by go_num, R.out⟩, by simp [intOf]; omega⟩
       . have Z := Lib.hid (lim_past (xs := xs) (k := p + 1) (by rw [Hl.out]; omega))
         have R := Lib.hid (right_rel (l := k) (g := w.heap.size) h.ok (show t <= 32 by have := Hst.out.2; omega) him Hlen Hrw Hok Hdone Hb (lim xs p) (by rw [<- hp, Z.out]; omega))
         clear hp
         have j4 : (n : Int) <= (p : Int) + 1 := by omega
         go_wp2
         rw [shr_cast]
         exact ⟨⟨i + 1, _, by omega, by go_num, R.out⟩, by simp [intOf]; omega⟩
     . obtain rfl : i = m := by omega
       have hz := Hrw.out.lt
       have hsz := Hrw.out.sl (B := wr.heap.size) (n := i) (c := i) hz 0 (by rw [Hlen.out]; omega) (Nat.le_refl _) (by omega) Hok.out
       rw [List.drop_zero, List.take_of_length_le (by rw [Hlen.out]; omega)] at hsz
       have He := Lib.hid (Hend.out zr Hlen.out Hdone.out)
       obtain ⟨ad, rfl, hadb, hc1⟩ := (h.below Hb.out).cell (k := k) hln
       have xk := h.ok.lim k
       have j7 := shl_cast 1 t (by omega) Hst.out.2
       obtain ⟨j, hj, hnz, hv⟩ := trim_len zr i (by rw [Hlen.out]; exact Nat.le_refl _)
       rw [List.take_of_length_le (i := i) (by rw [Hlen.out]; exact Nat.le_refl _)] at hv
       have HV := Lib.hid hv
       clear hv j7
       obtain ⟨M, hM⟩ : ∃ M, M = 2 ^ t - 1 := ⟨_, rfl⟩
       have hpw : 2 ^ t <= 2 ^ 31 := Nat.pow_le_pow_right (by decide) (by have := Hst.out.2; omega)
       have hpw0 : 0 < 2 ^ t := Nat.pow_pos (by decide)
       have ct : (2 ^ t : Int) = ((2 ^ t : Nat) : Int) := by rw [Int.natCast_pow]; rfl
       have jlow : IntKind.u64.wrap (IntKind.u64.wrap (2 ^ t) - 1) = (M : Int) := by
        rw [ct, IntKind.wrap_u64, IntKind.wrap_u64]; omega
       obtain ⟨r, hr⟩ : ∃ r, r = lim xs k % 2 ^ t := ⟨_, rfl⟩
       have jand : bits .and .u64 ((lim xs k : Nat) : Int) (M : Int) = (r : Int) := by
        rw [u64_and_nat (lim xs k) M (by omega) (by omega), hM, Nat.and_two_pow_sub_one_eq_mod, hr]
       have HMr := Lib.hid (And.intro hM hr)
       clear hM hpw hpw0 ct hr
       go_wp2
       clear jlow
       have hq0 := fun h => of_decide_eq_false (show decide (val (xs.take k) ≠ 0) = false from Hq.out.symm.trans h)
       have hq1 := fun h => of_decide_eq_true (show decide (val (xs.take k) ≠ 0) = true from Hq.out.symm.trans h)
       have HQ0 := Lib.hid hq0
       have HQ1 := Lib.hid hq1
       clear hq0 hq1
       cases q
       . have Hb2 : Hid (b = decide (lim xs k % 2 ^ t ≠ 0)) := by
          rw [Hid, <- HBL.out, decide_eq_decide]
          constructor
          . intro h1
            exact (Hlost.out.1 h1).elim (fun h2 => absurd h2 (HQ0.out rfl)) id
          . intro h1
            exact Hlost.out.2 (.inr h1)
         have hb9 : ((r : Int) != 0) = b := by
          rw [Hb2.out, <- HMr.out.2]
          by_cases e : r = 0
          . subst e; rfl
          . rw [decide_eq_true e, bne_iff_ne]; omega
         go_wp2_with fail
         go_quiet ((go_at_call 153; exact Calls.quiet_of_same (rtrim_at _ _ _ _ j zr _ (hsz.drewN _) hj hnz HV.out)))
         go_wp2
         go_ret2
         exact ⟨_, _, _, _, rfl, (hsz.to hj).drewN _, hnz, by rw [HV.out]; exact He.out, below_drewN Hb.out _⟩
       . have Hb2 : Hid (b = true) := by
          rw [Hid, <- HBL.out]
          exact decide_eq_true (Hlost.out.2 (.inl (HQ1.out rfl)))
         have hb2 : b = true := Hb2.out
         clear HBL Hb2
         subst hb2
         go_wp2_with fail
         go_quiet ((go_at_call 153; exact Calls.quiet_of_same (rtrim_at _ _ _ _ j zr _ (hsz.drewN _) hj hnz HV.out)))
         go_wp2
         go_ret2
         exact ⟨_, _, _, _, rfl, (hsz.to hj).drewN _, hnz, by rw [HV.out]; exact He.out, below_drewN Hb.out _⟩
theorem rright_any (A : Option Addr) (n c s : Nat) (xs : List Nat) (w : World) (h : Sl w w.heap.size A n c xs) (hx : Nz xs) (hs : s <= 1000000) (hn : n <= 1000000) :
 Calls Tryz.prog 206 #[.slice A n c, .int .i64 (s : Int)] w (RetNumB (val xs / 2 ^ s) (decide (val xs % 2 ^ s ≠ 0)) w) := by
 by_cases hl : n <= s / 32
 . exact rright_far A n c s (s / 32) xs w h hx hs (by omega) hl
 . exact rright_near A n c s (s / 32) (s % 32) xs w h hs hn (by omega) (by omega) (by omega) _ rfl
end Go.Proofs.YtmncfbfepdbioaaGreatDoor
namespace Go.Proofs.YtmncfbfepdbioaaGreatDoor
open Go.RowKit
theorem bit_limb (a D t : Nat) (ht : t < 32) : (a + 4294967296 * D) / 2 ^ t % 2 = a / 2 ^ t % 2 := by
 have e : 4294967296 * D = 2 ^ t * (2 * (2 ^ (31 - t) * D)) := by
  rw [show (4294967296 : Nat) = 2 ^ t * 2 * 2 ^ (31 - t) by
   rw [<- Nat.pow_succ, <- Nat.pow_add, show t + 1 + (31 - t) = 32 by omega]]
  rw [Nat.mul_assoc, Nat.mul_assoc]
 rw [e, Nat.add_mul_div_left _ _ (Nat.pow_pos (by decide)), Nat.add_mul_mod_self_left]
theorem bit_in {xs : List Nat} {i k t : Nat} (hx : Ok xs) (hi : i = 32 * k + t) (ht : t < 32) (hk : k < xs.length) : val xs / 2 ^ i % 2 = lim xs k / 2 ^ t % 2 := by
 have a := val_lt (hx.take k)
 rw [List.length_take, Nat.min_eq_left (Nat.le_of_lt hk)] at a
 have e : val xs = val (xs.take k) + 4294967296 ^ k * val (xs.drop k) := by
  rw [<- List.take_append_drop k xs, val_app, List.take_append_drop, List.length_take, Nat.min_eq_left (Nat.le_of_lt hk)]
 rw [hi, Nat.pow_add, <- Nat.div_div_eq_div_mul, show (2 : Nat) ^ (32 * k) = 4294967296 ^ k by rw [Nat.pow_mul], e, Nat.add_mul_div_left _ _ (Nat.pow_pos (by decide)), Nat.div_eq_of_lt a, Nat.zero_add, val_drop xs k hk]
 exact bit_limb _ _ _ ht
theorem bit_out {xs : List Nat} {i k : Nat} (hx : Ok xs) (hi : 32 * k <= i) (hk : xs.length <= k) : val xs / 2 ^ i % 2 = 0 := by
 have a := val_lt hx
 have b : 4294967296 ^ xs.length <= 2 ^ i := by
  rw [show (4294967296 : Nat) = 2 ^ 32 by decide, <- Nat.pow_mul]
  exact Nat.pow_le_pow_right (by decide) (by omega)
 rw [Nat.div_eq_of_lt (Nat.lt_of_lt_of_le a b)]
theorem rbit_any (A : Option Addr) (n c B i k t v : Nat) (xs : List Nat) (w : World) (h : Sl w B A n c xs) (hi : i <= 1000000) (hl : (i : Int) / 32 = (k : Int)) (ht : (i : Int) % 32 = (t : Int)) (hv : val xs / 2 ^ i % 2 = v) :
 Calls Tryz.prog 184 #[.slice A n c, .int .i64 (i : Int)] w fun e w' => e = .returned (.int .u32 (v : Int)) /\ w' = w := by
 have hcap := h.cap
 have hcr := h.capr
 have Hl := Lib.hid h.len
 by_cases hk : k < n
 . have Hv := Lib.hid (bit_in h.ok (show i = 32 * k + t by omega) (by omega) (by rw [h.len]; exact hk))
   have HV := Lib.hid hv
   clear hv
   obtain ⟨ad, rfl, hadb, hc1⟩ := h.cell (k := k) hk
   have hx1 := h.ok.lim k
   go_enter Tryz.func184, Tryz.ntmps184
   go_wp2
   have e : bits BinOp.and IntKind.u32 ((lim xs k : Int) / 2 ^ t) 1 = (v : Int) := by
    have q : lim xs k / 2 ^ t <= lim xs k := Nat.div_le_self _ _
    rw [show ((lim xs k : Int) / 2 ^ t) = ((lim xs k / 2 ^ t : Nat) : Int) by rw [Int.natCast_ediv, Int.natCast_pow]; rfl]
    have r := u32_and_nat (lim xs k / 2 ^ t) 1 (by omega) (by decide)
    rw [Nat.and_one_is_mod, <- Hv.out, HV.out] at r
    exact r
   rw [e]
   go_ret
   exact ⟨rfl, rfl⟩
 . have Hv := Lib.hid (bit_out (k := k) h.ok (show 32 * k <= i by omega) (by rw [h.len]; omega))
   obtain rfl : v = 0 := by rw [<- hv]; exact Hv.out
   clear hv
   go_enter Tryz.func184, Tryz.ntmps184
   go_wp2
   go_ret
   exact ⟨rfl, rfl⟩
end Go.Proofs.YtmncfbfepdbioaaGreatDoor
namespace Go.Proofs.YtmncfbfepdbioaaGreatDoor
open Go.RowKit
theorem double_step {P W cy b v2 l s : Nat} (hs : s = 2 * l + cy) (h : W + P * cy = 2 * v2 + b) : W + P * (s % 4294967296) + P * 4294967296 * (s / 4294967296) = 2 * (v2 + P * l) + b := by
 have e : P * (s % 4294967296) + P * 4294967296 * (s / 4294967296) = P * s := by rw [Nat.mul_assoc, <- Nat.mul_add, Nat.mod_add_div]
 have f : P * s = 2 * (P * l) + P * cy := by rw [hs, Nat.mul_add, Nat.mul_left_comm]
 generalize P * l = x at *
 generalize P * cy = y at *
 generalize P * s = z at *
 generalize P * (s % 4294967296) = t1 at *
 generalize P * 4294967296 * (s / 4294967296) = t2 at *
 omega
theorem double_rel {w wr : World} {zr xs : List Nat} {g k m cy b : Nat} (hlt : k < m) (hm : zr.length = m) (Hrow : Hid (Row wr g zr)) (Hok : Hid (Ok zr))
 (Hval : Hid (wv zr 0 k + 4294967296 ^ k * cy = 2 * val (xs.take k) + b)) (Hb : Hid (Below g w wr)) (s : Nat) (hs : s = 2 * lim xs k + cy) :
 Hid ((zr.set k (s % 4294967296)).length = m) /\ Hid (Row (wr.setCell ⟨g, k, none⟩ (.int .u32 ((s % 4294967296 : Nat) : Int))) g (zr.set k (s % 4294967296))) /\ Hid (Ok (zr.set k (s % 4294967296))) ∧
 Hid (wv (zr.set k (s % 4294967296)) 0 (k + 1) + 4294967296 ^ (k + 1) * (s / 4294967296) = 2 * val (xs.take (k + 1)) + b) ∧
 Hid (Below g w (wr.setCell ⟨g, k, none⟩ (.int .u32 ((s % 4294967296 : Nat) : Int)))) := by
 refine ⟨by rw [Hid, List.length_set, hm], Hrow.out.set _ _, Hok.out.set _ (by omega), ?_, Hb.out.setCell (Nat.le_refl _) _⟩
 have e := wv_set_end (zs := zr) (off := 0) (k := k) (v := s % 4294967296) (by omega)
 rw [Nat.zero_add] at e
 rw [Hid, e, val_take_succ, Nat.pow_succ]
 exact double_step hs Hval.out
end Go.Proofs.YtmncfbfepdbioaaGreatDoor
namespace Go.Proofs.YtmncfbfepdbioaaGreatDoor
open Go.RowKit
def RetNumN (N : Nat) (w : World) (e : Ending) (w' : World) : Prop := ∃ n c xs, e = .returned (.slice (some ⟨w.heap.size, 0, none⟩) n c) /\ Sl w' w'.heap.size (some ⟨w.heap.size, 0, none⟩) n c xs /\ Nz xs /\ val xs = N /\ Below w.heap.size w w'
theorem rdouble_new (A : Option Addr) (n c b : Nat) (xs : List Nat) (w : World) (h : Sl w w.heap.size A n c xs) (hn : n <= 1000000) (hb : b <= 1) :
 Calls Tryz.prog 213 #[.slice A n c, .int .u32 (b : Int)] w (RetNumN (2 * val xs + b) w) := by
 have hcap := h.cap
 have hcr := h.capr
 have Hl := Lib.hid h.len
 have hmk := make_any ((n : Int) + 1) (n + 1) (by omega) (by omega)
 have Hrow := Lib.hid (Row.made w (n + 1))
 have Hb0 := Lib.hid ((Below.refl w.heap.size w).alloc (Nat.le_refl _) (.cells (zrow (n + 1)) 44))
 go_enter Tryz.func213, Tryz.ntmps213
 go_wp2
 go_loopw [1, 6] (fun cv iv wr => ∃ (k cy : Nat) (zr : List Nat), k <= n /\ iv = .int .i64 k /\ cv = .int .u32 cy /\ cy <= 1 /\ Hid (zr.length = n + 1) /\ Hid (Row wr w.heap.size zr) /\ Hid (Ok zr) ∧
  Hid (wv zr 0 k + 4294967296 ^ k * cy = 2 * val (xs.take k) + b) /\ Hid (Below w.heap.size w wr)) (fun _ iv _ => n + 1 - (intOf iv).toNat)
 case atStart => exact ⟨0, b, List.replicate (n + 1) 0, by omega, rfl, rfl, hb, by rw [Hid, List.length_replicate], Hrow.out, ok_zeros _, by simp [Hid, wv, val], Hb0.out⟩
 case round =>
  obtain ⟨k, cy, zr, hk, rfl, rfl, hcy, Hlen, Hrw, Hok, Hval, Hb⟩ := hrel
  by_cases hkn : k < n
  . have hc1 := Hrw.out.cell (i := k) (by rw [Hlen.out]; omega)
    have hf1 := Hrw.out.free k
    have R := Lib.hid (double_rel (xs := xs) (show k < n + 1 by omega) Hlen.out Hrw Hok Hval Hb _ rfl)
    have lx := h.ok.lim k
    have hk2 : k < n + 1 := by omega
    obtain ⟨ad, rfl, _, hcx⟩ := (h.below Hb.out).cell hkn
    have hcx2 : (wr.setCell ⟨w.heap.size, k, none⟩ (.int .u32 (((2 * lim xs k + cy) % 4294967296 : Nat) : Int))).cell? (ad.add k) = some (.int .u32 (lim xs k : Nat)) :=
     ((h.below R.out.2.2.2.2.out).cell hkn).elim fun a q => by obtain ⟨e, _, hc⟩ := q; cases e; exact hc
    have e9 : (((2 * lim xs k + cy) % 4294967296 : Nat) : Int) = (lim xs k : Int) * 2 % 4294967296 + (cy : Int) := by omega
    have e8 : (lim xs k : Int) / 2147483648 = (((2 * lim xs k + cy) / 4294967296 : Nat) : Int) := by omega
    rw [e9] at hcx2
    have E9 := Lib.hid (And.intro e9 e8)
    clear e9 e8
    go_wp2
    rw [<- E9.out.1, E9.out.2]
    exact ⟨⟨k + 1, (2 * lim xs k + cy) / 4294967296, _, by omega, by go_num, rfl, by omega, R.out⟩, by simp [intOf]; omega⟩
  . obtain rfl : k = n := by omega
    have hc1 := Hrw.out.cell (i := k) (by rw [Hlen.out]; omega)
    have hf1 := Hrw.out.free k
    have Hz2 := Lib.hid (Hrw.out.set k cy)
    have Hok2 := Lib.hid (Hok.out.set k (v := cy) (by omega))
    have Hv2 := Lib.hid (show val (zr.set k cy) = 2 * val xs + b by
     have e := wv_set_end (zs := zr) (off := 0) (k := k) (v := cy) (by rw [Hlen.out]; omega)
     rw [Nat.zero_add] at e
     have v := Hval.out
     rw [List.take_of_length_le (by rw [Hl.out]; exact Nat.le_refl _)] at v
     rw [<- wv_all (zr.set k cy) (k := k + 1) (by rw [List.length_set, Hlen.out]; exact Nat.le_refl _), e, v])
    have Hb2 := Lib.hid (Hb.out.setCell (p := ⟨w.heap.size, k, none⟩) (Nat.le_refl _) (.int .u32 (cy : Int)))
    have hsl := Hz2.out.sl (B := (wr.setCell ⟨w.heap.size, k, none⟩ (.int .u32 (cy : Int))).heap.size) (n := k + 1) (c := k + 1) Hz2.out.lt 0 (by rw [List.length_set, Hlen.out]; omega) (Nat.le_refl _) (by omega) Hok2.out
    rw [List.drop_zero, List.take_of_length_le (by rw [List.length_set, Hlen.out]; omega)] at hsl
    have hk3 : k < k + 1 := by omega
    go_wp2_with fail
    refine (rtrim_any _ _ _ _ _ _ hsl).mono ?_
    rintro e w3 ⟨⟨j, hj, rfl, hnz, hv⟩, rfl⟩
    have HV := Lib.hid hv
    clear hv
    go_wp2
    go_ret
    exact ⟨_, _, _, rfl, hsl.to hj, hnz, by rw [HV.out]; exact Hv2.out, Hb2.out⟩
theorem rminus_new (A A' : Option Addr) (n c n' c' : Nat) (xs ys : List Nat) (w : World) (h : Sl w w.heap.size A n c xs) (h' : Sl w w.heap.size A' n' c' ys) (hy : Nz ys) (hle : val ys <= val xs) :
 Calls Tryz.prog 187 #[.slice A n c, .slice A' n' c'] w (RetNumN (val xs - val ys) w) := by
 have hn : n' <= n := by
  rcases Nat.lt_or_ge n n' with hlt | hge
  . have := val_lt_of_length h.ok hy (by rw [h.len, h'.len]; exact hlt)
    omega
  . exact hge
 have Hle := Lib.hid hle
 clear hle
 have hreach := h.reach
 have Hx := Lib.hid (sl_val h (k := n) (Nat.le_refl _))
 have Hy := Lib.hid (sl_val h' (k := n) hn)
 have hmk := make_any (n : Int) n rfl (by omega)
 have Hrow := Lib.hid (Row.made w n)
 have Hb0 := Lib.hid ((Below.refl w.heap.size w).alloc (Nat.le_refl _) (.cells (zrow n) 44))
 go_enter Tryz.func187, Tryz.ntmps187
 go_wp2
 go_loopw [6, 7] (fun cv iv wr => ∃ (k cy : Nat) (zr : List Nat), k <= n /\ iv = .int .i64 k /\ cv = .int .u64 cy /\ cy <= 1 /\ Hid (zr.length = n) /\ Hid (Row wr w.heap.size zr) /\ Hid (Ok zr) ∧
  Hid (wv zr 0 k + val (ys.take k) = val (xs.take k) + 4294967296 ^ k * cy) /\ Hid (Below w.heap.size w wr)) (fun _ iv _ => n - (intOf iv).toNat)
 case atStart => exact ⟨0, 0, List.replicate n 0, by omega, rfl, rfl, by omega, by rw [Hid, List.length_replicate], Hrow.out, ok_zeros _, by simp [Hid, wv, val], Hb0.out⟩
 case round =>
  obtain ⟨k, cy, zr, hk, rfl, rfl, hcy, Hlen, Hrw, Hok, Hval, Hb⟩ := hrel
  by_cases hkn : k < n
  . have hc1 := Hrw.out.cell (i := k) (by rw [Hlen.out]; exact hkn)
    have hf1 := Hrw.out.free k
    have lx := h.ok.lim k
    have ly := h'.ok.lim k
    obtain ⟨ad, rfl, _, hcx⟩ := (h.below Hb.out).cell hkn
    by_cases k2 : k < n'
    . obtain ⟨ad', rfl, _, hcy'⟩ := (h'.below Hb.out).cell k2
      by_cases hb : lim xs k < cy + lim ys k
      . have R := Lib.hid (rminus_rel (xs := xs) (ys := ys) hkn Hlen.out Hrw Hok Hval Hb (lim xs k + 4294967296 - (cy + lim ys k)) 1 (by omega) (by omega))
        go_wp2
        rw [show ((↑(lim xs k) + 4294967296 - (↑cy + ↑(lim ys k))) : Int) = ((lim xs k + 4294967296 - (cy + lim ys k) : Nat) : Int) by omega]
        exact ⟨⟨k + 1, 1, _, by omega, by go_num, by go_num, by omega, R.out⟩, by simp [intOf]; omega⟩
      . have R := Lib.hid (rminus_rel (xs := xs) (ys := ys) hkn Hlen.out Hrw Hok Hval Hb (lim xs k - (cy + lim ys k)) 0 (by omega) (by omega))
        go_wp2
        rw [show ((↑(lim xs k) - (↑cy + ↑(lim ys k))) : Int) = ((lim xs k - (cy + lim ys k) : Nat) : Int) by omega]
        exact ⟨⟨k + 1, 0, _, by omega, by go_num, by go_num, by omega, R.out⟩, by simp [intOf]; omega⟩
    . have Z := Lib.hid (sl_lim_past h' (k := k) (by omega))
      by_cases hb : lim xs k < cy
      . have R := Lib.hid (rminus_rel (xs := xs) (ys := ys) hkn Hlen.out Hrw Hok Hval Hb (lim xs k + 4294967296 - cy) 1 (by omega) (by rw [Z.out]; omega))
        go_wp2
        rw [show ((↑(lim xs k) + 4294967296 - ↑cy) : Int) = ((lim xs k + 4294967296 - cy : Nat) : Int) by omega]
        exact ⟨⟨k + 1, 1, _, by omega, by go_num, by go_num, by omega, R.out⟩, by simp [intOf]; omega⟩
      . have R := Lib.hid (rminus_rel (xs := xs) (ys := ys) hkn Hlen.out Hrw Hok Hval Hb (lim xs k - cy) 0 (by omega) (by rw [Z.out]; omega))
        go_wp2
        rw [show ((↑(lim xs k) - ↑cy) : Int) = ((lim xs k - cy : Nat) : Int) by omega]
        exact ⟨⟨k + 1, 0, _, by omega, by go_num, by go_num, by omega, R.out⟩, by simp [intOf]; omega⟩
  . obtain rfl : k = n := by omega
    have hz := Hrw.out.lt
    have hsl := Hrw.out.sl (B := wr.heap.size) (n := k) (c := k) hz 0 (by rw [Hlen.out]; omega) (Nat.le_refl _) (by omega) Hok.out
    rw [List.drop_zero, List.take_of_length_le (by rw [Hlen.out]; omega)] at hsl
    have He : Hid (val zr = val xs - val ys) := by
     have a := Hval.out
     rw [Hx.out, Hy.out, wv_all zr (by rw [Hlen.out]; omega)] at a
     have b := val_lt Hok.out
     rw [Hlen.out] at b
     have c := Hle.out
     rcases Nat.lt_or_ge cy 1 with h1 | h1
     . obtain rfl : cy = 0 := by omega
       show val zr = val xs - val ys
       omega
     . obtain rfl : cy = 1 := by omega
       show val zr = val xs - val ys
       omega
    go_wp2_with fail
    refine (rtrim_any _ _ _ _ zr wr hsl).mono ?_
    rintro e w3 ⟨⟨j, hj, rfl, hnz, hv⟩, rfl⟩
    have HV := Lib.hid hv
    clear hv
    go_wp2
    go_ret
    exact ⟨_, _, _, rfl, hsl.to hj, hnz, by rw [HV.out]; exact He.out, Hb.out⟩
end Go.Proofs.YtmncfbfepdbioaaGreatDoor
namespace Go.Proofs.YtmncfbfepdbioaaGreatDoor
open Go.RowKit
theorem short_step {d Z r l T X : Nat} (hT : T = 4294967296 * r + l) (hX : X = d * Z + r) : l + 4294967296 * X = d * (T / d + 4294967296 * Z) + T % d := by
 have e := Nat.div_add_mod T d
 rw [hX, Nat.mul_add, Nat.mul_add, Nat.mul_left_comm]
 generalize d * Z = a at *
 generalize d * (T / d) = b at *
 omega
theorem short_rel {w wr : World} {zr xs : List Nat} {g i m d r : Nat} (hlt : i < m) (hm : zr.length = m) (hx : xs.length = m) (Hrow : Hid (Row wr g zr)) (Hok : Hid (Ok zr)) (hd : 0 < d) (hr : r < d) (hxo : Ok xs)
 (Hval : Hid (val (xs.drop (i + 1)) = d * val (zr.drop (i + 1)) + r)) (Hb : Hid (Below g w wr)) (T : Nat) (hT : T = 4294967296 * r + lim xs i) :
 Hid ((zr.set i (T / d)).length = m) /\ Hid (Row (wr.setCell ⟨g, i, none⟩ (.int .u32 ((T / d : Nat) : Int))) g (zr.set i (T / d))) /\ Hid (Ok (zr.set i (T / d))) ∧
 Hid (val (xs.drop i) = d * val ((zr.set i (T / d)).drop i) + T % d) /\ Hid (Below g w (wr.setCell ⟨g, i, none⟩ (.int .u32 ((T / d : Nat) : Int)))) := by
 have hq : T / d < 4294967296 := (Nat.div_lt_iff_lt_mul hd).2 (by
  have := hxo.lim i
  have := Nat.mul_le_mul_left 4294967296 (show r + 1 <= d from hr)
  omega)
 refine ⟨by rw [Hid, List.length_set, hm], Hrow.out.set _ _, Hok.out.set _ hq, ?_, Hb.out.setCell (Nat.le_refl _) _⟩
 rw [Hid, val_drop xs i (by omega), val_drop _ i (by rw [List.length_set]; omega), lim_set_eq (by omega), List.drop_set_of_lt (by omega)]
 exact short_step hT Hval.out
def RetNumL (N r : Nat) (w : World) (e : Ending) (w' : World) : Prop := ∃ A n c xs, e = .returned (.tuple #[.slice A n c, .int .u32 (r : Int)]) /\ Sl w' w'.heap.size A n c xs /\ Nz xs /\ val xs = N /\ Below w.heap.size w w'
theorem short_q {X d Z r : Nat} (h : X = d * Z + r) (hr : r < d) : Z = X / d /\ r = X % d := by
 have hd : 0 < d := by omega
 rw [h, Nat.add_comm, Nat.add_mul_div_left _ _ hd, Nat.add_mul_mod_self_left, Nat.div_eq_of_lt hr, Nat.mod_eq_of_lt hr]
 exact ⟨(Nat.zero_add _).symm, rfl⟩
theorem rshort_any (A : Option Addr) (n c d : Nat) (xs : List Nat) (w : World) (h : Sl w w.heap.size A n c xs) (hn : n <= 1000000) (hd : 0 < d) (hd2 : d < 4294967296) :
 Calls Tryz.prog 207 #[.slice A n c, .int .u32 (d : Int)] w (RetNumL (val xs / d) (val xs % d) w) := by
 have hcap := h.cap
 have hcr := h.capr
 have Hl := Lib.hid h.len
 have hmk := make_any (n : Int) n (by omega) (by omega)
 have Hrow := Lib.hid (Row.made w n)
 have Hb0 := Lib.hid ((Below.refl w.heap.size w).alloc (Nat.le_refl _) (.cells (zrow n) 44))
 have hd0 : ((d : Int) == 0) = false := by rw [beq_eq_false_iff_ne]; omega
 go_enter Tryz.func207, Tryz.ntmps207
 go_wp2
 go_loopw [7, 8] (fun rv iv wr => ∃ (j r : Nat) (zr : List Nat), j <= n /\ iv = .int .i64 ((j : Int) - 1) /\ rv = .int .u64 r /\ r < d /\ Hid (zr.length = n) /\ Hid (Row wr w.heap.size zr) /\ Hid (Ok zr) ∧
  Hid (val (xs.drop j) = d * val (zr.drop j) + r) /\ Hid (Below w.heap.size w wr)) (fun _ iv _ => (intOf iv + 1).toNat)
 case atStart => exact ⟨n, 0, List.replicate n 0, Nat.le_refl _, rfl, rfl, hd, by rw [Hid, List.length_replicate], Hrow.out, ok_zeros _, by rw [Hid, List.drop_of_length_le (by rw [Hl.out]; exact Nat.le_refl _), List.drop_of_length_le (by rw [List.length_replicate]; exact Nat.le_refl _)]; rfl, Hb0.out⟩
 case round =>
  obtain ⟨j, r, zr, hj, rfl, rfl, hr, Hlen, Hrw, Hok, Hval, Hb⟩ := hrel
  by_cases hj0 : 0 < j
  . obtain ⟨i, rfl⟩ : ∃ i, j = i + 1 := ⟨j - 1, by omega⟩
    have hi : i < n := by omega
    have hc1 := Hrw.out.cell (i := i) (by rw [Hlen.out]; omega)
    have hf1 := Hrw.out.free i
    have lx := h.ok.lim i
    have R := Lib.hid (short_rel (xs := xs) hi Hlen.out Hl.out Hrw Hok hd hr h.ok Hval Hb _ rfl)
    obtain ⟨ad, rfl, _, hcx⟩ := (h.below Hb.out).cell hi
    have e1 : ((i + 1 : Nat) : Int) - 1 = (i : Int) := by omega
    rw [e1]
    obtain ⟨T, hT⟩ : ∃ T, T = 4294967296 * r + lim xs i := ⟨_, rfl⟩
    rw [<- hT] at R
    have hTi : (r : Int) * 4294967296 + (lim xs i : Int) = (T : Int) := by omega
    have hT9 : T < 18446744073709551616 := by omega
    have hTq : T / d < 4294967296 := (Nat.div_lt_iff_lt_mul hd).2 (by
     have := Nat.mul_le_mul_left 4294967296 (show r + 1 <= d from hr)
     omega)
    have HT := Lib.hid hT
    clear hT e1
    go_wp2
    rw [<- Int.natCast_ediv, <- Int.natCast_emod, wrap_small hTq]
    exact ⟨⟨i, T % d, _, by omega, rfl, rfl, Nat.mod_lt _ hd, R.out⟩, by simp [intOf]⟩
  . obtain rfl : j = 0 := by omega
    have Hz := Lib.hid (short_q Hval.out hr)
    rw [List.drop_zero, List.drop_zero] at Hz
    have hsl := Hrw.out.sl (B := wr.heap.size) (n := n) (c := n) Hrw.out.lt 0 (by rw [Hlen.out]; omega) (Nat.le_refl _) (by omega) Hok.out
    rw [List.drop_zero, List.take_of_length_le (by rw [Hlen.out]; exact Nat.le_refl _)] at hsl
    go_wp2_with fail
    refine (rtrim_any _ _ _ _ _ _ hsl).mono ?_
    rintro e w3 ⟨⟨j, hj, rfl, hnz, hv⟩, rfl⟩
    have HV := Lib.hid hv
    clear hv
    go_wp2
    rw [Hz.out.2]
    go_ret2
    exact ⟨_, _, _, _, rfl, hsl.to hj, hnz, by rw [HV.out]; exact Hz.out.1, Hb.out⟩
end Go.Proofs.YtmncfbfepdbioaaGreatDoor
namespace Go.Proofs.YtmncfbfepdbioaaGreatDoor
open Go.RowKit
theorem tz_bit0 {N k m i : Nat} (hN : N = 2 ^ k * m) (hi : i < k) : N / 2 ^ i % 2 = 0 := by
 obtain ⟨d, rfl⟩ : ∃ d, k = i + (d + 1) := ⟨k - i - 1, by omega⟩
 rw [hN, Nat.pow_add, Nat.mul_assoc, Nat.mul_div_cancel_left _ (Nat.pow_pos (by decide)), Nat.pow_succ, Nat.mul_comm (2 ^ d) 2, Nat.mul_assoc, Nat.mul_mod_right]
theorem tz_bit1 {N k m : Nat} (hN : N = 2 ^ k * m) (hm : m % 2 = 1) : N / 2 ^ k % 2 = 1 := by
 rw [hN, Nat.mul_div_cancel_left _ (Nat.pow_pos (by decide)), hm]
theorem rodd_any (A : Option Addr) (n c k m : Nat) (xs : List Nat) (w : World) (h : Sl w w.heap.size A n c xs) (hx : Nz xs) (hn : n <= 1000000) (hk : k <= 900000) (hN : val xs = 2 ^ k * m) (hm : m % 2 = 1) :
 Calls Tryz.prog 185 #[.slice A n c] w (RetNum m w) := by
 have HN := Lib.hid hN
 have Hm := Lib.hid hm
 clear hN hm
 have H0 := Lib.hid (fun i (hi : i < k) => tz_bit0 HN.out hi)
 have H1 := Lib.hid (tz_bit1 HN.out Hm.out)
 have Hq : Hid (val xs / 2 ^ k = m) := by rw [Hid, HN.out, Nat.mul_div_cancel_left _ (Nat.pow_pos (by decide))]
 go_enter Tryz.func185, Tryz.ntmps185
 go_wp2
 go_loop [3] (fun iv => ∃ i : Nat, i <= k /\ iv = .int .i64 (i : Int)) (fun iv => k + 1 - (intOf iv).toNat)
 case atStart => exact ⟨0, by omega, rfl⟩
 case round =>
  obtain ⟨i, hi, rfl⟩ := hrel
  by_cases hik : i < k
  . have C := rbit_any A n c w.heap.size i (i / 32) (i % 32) 0 xs w h (by omega) (by omega) (by omega) (H0.out i hik)
    go_wp2_with fail
    refine C.mono ?_
    clear C
    rintro e w2 ⟨rfl, rfl⟩
    go_wp2
    exact ⟨⟨i + 1, by omega, by go_num⟩, by simp [intOf]; omega⟩
  . obtain rfl : i = k := by omega
    have C := rbit_any A n c w.heap.size i (i / 32) (i % 32) 1 xs w h (by omega) (by omega) (by omega) H1.out
    go_wp2_with fail
    refine C.mono ?_
    clear C
    rintro e w2 ⟨rfl, rfl⟩
    go_wp2_with fail
    refine (rright_any A n c i xs _ h hx (by omega) hn).mono ?_
    rintro e w3 ⟨A3, n3, c3, xs3, rfl, hs3, hx3, hv3, hb3⟩
    have HV := Lib.hid hv3
    clear hv3
    go_wp2
    go_ret
    exact ⟨_, _, _, _, rfl, hs3, hx3, HV.out.trans Hq.out, hb3⟩
end Go.Proofs.YtmncfbfepdbioaaGreatDoor
namespace Go.Proofs.YtmncfbfepdbioaaGreatDoor
open Go.RowKit
theorem tz_of (N : Nat) (h : 0 < N) : ∃ k m : Nat, N = 2 ^ k * m /\ m % 2 = 1 /\ k < N := by
 induction N using Nat.strongRecOn with
 | _ N ih =>
   by_cases h2 : N % 2 = 1
   . exact ⟨0, N, by rw [Nat.pow_zero, Nat.one_mul], h2, h⟩
   . obtain ⟨k, m, e, o, l⟩ := ih (N / 2) (by omega) (by omega)
     refine ⟨k + 1, m, ?_, o, by omega⟩
     rw [Nat.pow_succ, Nat.mul_comm (2 ^ k) 2, Nat.mul_assoc, <- e]
     omega
theorem pow_coprime {y : Nat} (k : Nat) (hy : y % 2 = 1) : Nat.Coprime (2 ^ k) y := by
 apply Nat.Coprime.pow_left
 rw [Nat.coprime_iff_gcd_eq_one, Nat.gcd_rec, hy]
 rfl
theorem gcd_tz {k m y : Nat} (hy : y % 2 = 1) : Nat.gcd (2 ^ k * m) y = Nat.gcd m y := Nat.Coprime.gcd_mul_left_cancel m (pow_coprime k hy)
theorem gcd_sub {x y : Nat} (h : y <= x) : Nat.gcd (x - y) y = Nat.gcd x y := by
 have e : x = (x - y) + y := by omega
 conv => rhs; rw [e]
 rw [Nat.gcd_add_self_left]
theorem gcd_common {i j x y c : Nat} (hx : x % 2 = 1) (hy : y % 2 = 1) (hc : (i = c /\ c <= j) \/ (j = c /\ c <= i)) : Nat.gcd (2 ^ i * x) (2 ^ j * y) = Nat.gcd x y * 2 ^ c := by
 rcases hc with ⟨rfl, h⟩ | ⟨rfl, h⟩
 . obtain ⟨d, rfl⟩ : ∃ d, j = i + d := ⟨j - i, by omega⟩
   rw [Nat.pow_add, Nat.mul_assoc, Nat.gcd_mul_left, Nat.gcd_comm x, gcd_tz hx, Nat.gcd_comm y, Nat.mul_comm]
 . obtain ⟨d, rfl⟩ : ∃ d, i = j + d := ⟨i - j, by omega⟩
   rw [Nat.pow_add, Nat.mul_assoc, Nat.gcd_mul_left, gcd_tz hy, Nat.mul_comm]
end Go.Proofs.YtmncfbfepdbioaaGreatDoor
namespace Go.Proofs.YtmncfbfepdbioaaGreatDoor
open Go.RowKit
theorem rgcd_bad1 (neg neg' : Bool) (A A' : Option Addr) (n c n' c' : Nat) (xs : List Nat) (w : World) (h : Sl w w.heap.size A n c xs) (hv : vld neg xs = false) :
 Calls Tryz.prog 157 #[.agg #[.bool neg, .slice A n c], .agg #[.bool neg', .slice A' n' c']] w (RetIE 0 1 w) := by
 go_enter Tryz.func157, Tryz.ntmps157
 go_wp2_with fail
 generalize hW : World.alloc (World.alloc (World.alloc w _) _) _ = W
 obtain ⟨hb, hz, b0, b1, b2⟩ := sum_boxes neg neg' A A' n c n' c' w W hW
 have hs := h.on hb
 clear hW
 refine (rvalid_any _ _ _ _ _ xs _ hs (Nat.le_refl _)).mono ?_
 rintro e w1 ⟨rfl, hb1⟩
 have b2' := b2.below hb1 (by omega)
 have k3 := b2'.c0
 have k4 := b2'.c1
 have k5 := b2'.f 0
 have k6 := b2'.f 1
 generalize hr : w.heap.size = r at *
 have HRW := Lib.hid (And.intro hb hr)
 clear hb hr
 go_wp2
 exact bodyPost_ret (v := .tuple #[.agg #[.bool false, .slice none 0 0], .int .i64 1]) (by simp [results, Tryz.results157, go_sem, k3, k4]) rfl
  ⟨none, 0, 0, [], rfl, Sl.nil _ _, Nz.nil, rfl, by rw [HRW.out.2]; exact below_ret (below_chain HRW.out.1 (by omega) hb1) (show r <= r + 1 + 1 by omega) _ _⟩
theorem rgcd_bad2 (neg neg' : Bool) (A A' : Option Addr) (n c n' c' : Nat) (xs ys : List Nat) (w : World) (h : Sl w w.heap.size A n c xs) (h' : Sl w w.heap.size A' n' c' ys) (hv : vld neg xs = true) (hv' : vld neg' ys = false) :
 Calls Tryz.prog 157 #[.agg #[.bool neg, .slice A n c], .agg #[.bool neg', .slice A' n' c']] w (RetIE 0 1 w) := by
 go_enter Tryz.func157, Tryz.ntmps157
 go_wp2_with fail
 generalize hW : World.alloc (World.alloc (World.alloc w _) _) _ = W
 obtain ⟨hb, hz, b0, b1, b2⟩ := sum_boxes neg neg' A A' n c n' c' w W hW
 have hs := h.on hb
 have hs' := h'.on hb
 clear hW
 refine (rvalid_any _ _ _ _ _ xs _ hs (Nat.le_refl _)).mono ?_
 rintro e w1 ⟨rfl, hb1⟩
 have hz1 : w.heap.size + 1 + 1 < w1.heap.size := by have := hb1.size; omega
 have b1' := b1.below hb1 (by omega)
 have b2' := b2.below hb1 (by omega)
 have q0 := b1'.c0
 have q1 := b1'.c1
 go_wp2_with fail
 refine (rvalid_any _ _ _ _ _ ys _ (hs'.on hb1) (Nat.le_refl _)).mono ?_
 rintro e w2 ⟨rfl, hb2⟩
 clear q0 q1
 have b2'' := b2'.below hb2 (by omega)
 have k3 := b2''.c0
 have k4 := b2''.c1
 have k5 := b2''.f 0
 have k6 := b2''.f 1
 generalize hr : w.heap.size = r at *
 have HRW := Lib.hid (And.intro hb hr)
 clear hb hr
 go_wp2
 exact bodyPost_ret (v := .tuple #[.agg #[.bool false, .slice none 0 0], .int .i64 1]) (by simp [results, Tryz.results157, go_sem, k3, k4]) rfl
  ⟨none, 0, 0, [], rfl, Sl.nil _ _, Nz.nil, rfl, by rw [HRW.out.2]; exact below_ret (below_chain (below_chain HRW.out.1 (by omega) hb1) (by omega) hb2) (show r <= r + 1 + 1 by omega) _ _⟩
theorem rgcd_zero1 (neg neg' : Bool) (A A' : Option Addr) (n c n' c' : Nat) (xs ys : List Nat) (w : World) (h : Sl w w.heap.size A n c xs) (h' : Sl w w.heap.size A' n' c' ys) (hv : vld neg xs = true) (hv' : vld neg' ys = true) (hn0 : n = 0) (v : Nat) (hv9 : val xs + val ys = v) :
 Calls Tryz.prog 157 #[.agg #[.bool neg, .slice A n c], .agg #[.bool neg', .slice A' n' c']] w (RetIE (fitZ (sg false v)) (fitE (sg false v)) w) := by
 have Hv9 := Lib.hid hv9
 clear hv9
 have Hg := Lib.hid (And.intro (vld_true hv) (vld_true hv'))
 have hlx := h.len
 have hly := h'.len
 have hn : n <= 1000000 := by have := Hg.out.1.1; omega
 have hn' : n' <= 1000000 := by have := Hg.out.2.1; omega
 clear hlx hly
 have i5 : ((n : Int) == 0) = true := by rw [hn0]; rfl
 clear hn0
 go_enter Tryz.func157, Tryz.ntmps157
 go_wp2_with fail
 generalize hW : World.alloc (World.alloc (World.alloc w _) _) _ = W
 obtain ⟨hb, hz, b0, b1, b2⟩ := sum_boxes neg neg' A A' n c n' c' w W hW
 have hs := h.on hb
 have hs' := h'.on hb
 clear hW
 refine (rvalid_any _ _ _ _ _ xs _ hs (Nat.le_refl _)).mono ?_
 rintro e w1 ⟨rfl, hb1⟩
 have hz1 : w.heap.size + 1 + 1 < w1.heap.size := by have := hb1.size; omega
 have b0' := b0.below hb1 (by omega)
 have b1' := b1.below hb1 (by omega)
 have b2' := b2.below hb1 (by omega)
 have hs1 := hs.on hb1
 have hs1' := hs'.on hb1
 have q0 := b1'.c0
 have q1 := b1'.c1
 go_wp2_with fail
 refine (rvalid_any _ _ _ _ _ ys _ hs1' (Nat.le_refl _)).mono ?_
 rintro e w2 ⟨rfl, hb2⟩
 clear q0 q1
 have HB := Lib.hid (below_chain (below_chain hb (by omega) hb1) (by omega) hb2)
 have b0 := b0'.below hb2 (by omega)
 have b1 := b1'.below hb2 (by omega)
 have b2 := b2'.below hb2 (by omega)
 have hs := hs1.on hb2
 have hs' := hs1'.on hb2
 clear hb1 hb2 b0' b1' b2' hs1 hs1' hb hz hz1
 generalize hr : w.heap.size = r at *
 have Hr := Lib.hid hr
 clear hr
 have k0 := b0.c0
 have k1 := b0.c1
 have He := Lib.hid (Blk.new w2 44 #[])
 have Hs := Lib.hid (hs.on (below_new w2 (.cells #[] 44)))
 have j1 := b0.lt
 go_upto_region 4 with (at_builtin; refine copy_app rfl _ _ rfl w2.heap.size n c _ _ xs rfl He.out rfl Hs.out ?_; intro A3 c3 w3 hs3 hg3)
 have D3 := below_grown (below_new w2 (.cells #[] 44)) hg3 (Nat.le_refl _) (by simp)
 clear k0 k1 j1 He Hs hg3
 have b0 := b0.below D3 b0.lt
 have b1 := b1.below D3 b1.lt
 have b2 := b2.below D3 b2.lt
 have hs' := hs'.on D3
 have HB := Lib.hid (below_chain HB.out (by have := Hr.out; have := HB.out.size; omega) D3)
 clear D3 hs
 have k0 := b1.c0
 have k1 := b1.c1
 have He := Lib.hid (Blk.new w3 44 #[])
 have Hs := Lib.hid (hs'.on (below_new w3 (.cells #[] 44)))
 have j1 := b1.lt
 go_upto_region 5 with (at_builtin; refine copy_app rfl _ _ rfl w3.heap.size n' c' _ _ ys rfl He.out rfl Hs.out ?_; intro A4 c4 w4 hs4 hg4)
 have D4 := below_grown (below_new w3 (.cells #[] 44)) hg4 (Nat.le_refl _) (by simp)
 clear k0 k1 j1 He Hs hg4
 have b0 := b0.below D4 b0.lt
 have b1 := b1.below D4 b1.lt
 have b2 := b2.below D4 b2.lt
 have hs3 := hs3.on D4
 have HB := Lib.hid (below_chain HB.out (by have := Hr.out; have := HB.out.size; omega) D4)
 clear D4 hs'
 go_wp2_with fail
 refine (rplus_any _ _ _ _ _ _ _ _ _ hs3 hs4 hn hn').mono ?_
 rintro e w5 ⟨A5, n5, c5, xs5, rfl, hs5, hx5, hv5, hb5⟩
 rw [Hv9.out] at hv5
 have b2 := b2.below hb5 b2.lt
 have HB := Lib.hid (below_chain HB.out (by have := Hr.out; have := HB.out.size; omega) hb5)
 have H5 := Lib.hid (And.intro hv5 hx5)
 clear hb5 hv5 hx5
 go_wp2_with fail
 refine (fit_any false _ _ _ _ _ hs5 H5.out.2).mono ?_
 rw [H5.out.1]
 rintro e w6 ⟨A6, n6, c6, xs6, rfl, hs6, hx6, hv6, hb6⟩
 have b2 := b2.below hb6 b2.lt
 have HB := Lib.hid (below_chain HB.out (by have := Hr.out; have := HB.out.size; omega) hb6)
 have H6 := Lib.hid hv6
 clear hb6 hv6
 have k3 := b2.c0
 have k4 := b2.c1
 have k5 := b2.f 0
 have k6 := b2.f 1
 go_wp2
 exact bodyPost_ret (v := .tuple #[.agg #[.bool (decide (fitZ (sg false v) < 0)), .slice A6 n6 c6], .int .i64 (fitE (sg false v))]) (by simp [results, Tryz.results157, go_sem, k3, k4]) rfl
  ⟨A6, n6, c6, xs6, rfl, hs6.ret b2 _ _, hx6, H6.out, by rw [Hr.out]; exact below_ret HB.out (show r <= r + 1 + 1 by omega) _ _⟩
theorem rgcd_zero2 (neg neg' : Bool) (A A' : Option Addr) (n c n' c' : Nat) (xs ys : List Nat) (w : World) (h : Sl w w.heap.size A n c xs) (h' : Sl w w.heap.size A' n' c' ys) (hv : vld neg xs = true) (hv' : vld neg' ys = true) (hn0 : n ≠ 0) (hn1 : n' = 0) (v : Nat) (hv9 : val xs + val ys = v) :
 Calls Tryz.prog 157 #[.agg #[.bool neg, .slice A n c], .agg #[.bool neg', .slice A' n' c']] w (RetIE (fitZ (sg false v)) (fitE (sg false v)) w) := by
 have Hv9 := Lib.hid hv9
 clear hv9
 have Hg := Lib.hid (And.intro (vld_true hv) (vld_true hv'))
 have hlx := h.len
 have hly := h'.len
 have hn : n <= 1000000 := by have := Hg.out.1.1; omega
 have hn' : n' <= 1000000 := by have := Hg.out.2.1; omega
 clear hlx hly
 have i5 : ((n : Int) == 0) = false := by rw [beq_eq_false_iff_ne]; omega
 have i6 : ((n' : Int) == 0) = true := by rw [hn1]; rfl
 clear hn0 hn1
 go_enter Tryz.func157, Tryz.ntmps157
 go_wp2_with fail
 generalize hW : World.alloc (World.alloc (World.alloc w _) _) _ = W
 obtain ⟨hb, hz, b0, b1, b2⟩ := sum_boxes neg neg' A A' n c n' c' w W hW
 have hs := h.on hb
 have hs' := h'.on hb
 clear hW
 refine (rvalid_any _ _ _ _ _ xs _ hs (Nat.le_refl _)).mono ?_
 rintro e w1 ⟨rfl, hb1⟩
 have hz1 : w.heap.size + 1 + 1 < w1.heap.size := by have := hb1.size; omega
 have b0' := b0.below hb1 (by omega)
 have b1' := b1.below hb1 (by omega)
 have b2' := b2.below hb1 (by omega)
 have hs1 := hs.on hb1
 have hs1' := hs'.on hb1
 have q0 := b1'.c0
 have q1 := b1'.c1
 go_wp2_with fail
 refine (rvalid_any _ _ _ _ _ ys _ hs1' (Nat.le_refl _)).mono ?_
 rintro e w2 ⟨rfl, hb2⟩
 clear q0 q1
 have HB := Lib.hid (below_chain (below_chain hb (by omega) hb1) (by omega) hb2)
 have b0 := b0'.below hb2 (by omega)
 have b1 := b1'.below hb2 (by omega)
 have b2 := b2'.below hb2 (by omega)
 have hs := hs1.on hb2
 have hs' := hs1'.on hb2
 clear hb1 hb2 b0' b1' b2' hs1 hs1' hb hz hz1
 generalize hr : w.heap.size = r at *
 have Hr := Lib.hid hr
 clear hr
 have k0 := b0.c0
 have k1 := b0.c1
 have He := Lib.hid (Blk.new w2 44 #[])
 have Hs := Lib.hid (hs.on (below_new w2 (.cells #[] 44)))
 have j1 := b0.lt
 go_upto_region 4 with (at_builtin; refine copy_app rfl _ _ rfl w2.heap.size n c _ _ xs rfl He.out rfl Hs.out ?_; intro A3 c3 w3 hs3 hg3)
 have D3 := below_grown (below_new w2 (.cells #[] 44)) hg3 (Nat.le_refl _) (by simp)
 clear k0 k1 j1 He Hs hg3
 have b0 := b0.below D3 b0.lt
 have b1 := b1.below D3 b1.lt
 have b2 := b2.below D3 b2.lt
 have hs' := hs'.on D3
 have HB := Lib.hid (below_chain HB.out (by have := Hr.out; have := HB.out.size; omega) D3)
 clear D3 hs
 have k0 := b1.c0
 have k1 := b1.c1
 have He := Lib.hid (Blk.new w3 44 #[])
 have Hs := Lib.hid (hs'.on (below_new w3 (.cells #[] 44)))
 have j1 := b1.lt
 go_upto_region 5 with (at_builtin; refine copy_app rfl _ _ rfl w3.heap.size n' c' _ _ ys rfl He.out rfl Hs.out ?_; intro A4 c4 w4 hs4 hg4)
 have D4 := below_grown (below_new w3 (.cells #[] 44)) hg4 (Nat.le_refl _) (by simp)
 clear k0 k1 j1 He Hs hg4
 have b0 := b0.below D4 b0.lt
 have b1 := b1.below D4 b1.lt
 have b2 := b2.below D4 b2.lt
 have hs3 := hs3.on D4
 have HB := Lib.hid (below_chain HB.out (by have := Hr.out; have := HB.out.size; omega) D4)
 clear D4 hs'
 go_wp2_with fail
 refine (rplus_any _ _ _ _ _ _ _ _ _ hs3 hs4 hn hn').mono ?_
 rintro e w5 ⟨A5, n5, c5, xs5, rfl, hs5, hx5, hv5, hb5⟩
 rw [Hv9.out] at hv5
 have b2 := b2.below hb5 b2.lt
 have HB := Lib.hid (below_chain HB.out (by have := Hr.out; have := HB.out.size; omega) hb5)
 have H5 := Lib.hid (And.intro hv5 hx5)
 clear hb5 hv5 hx5
 go_wp2_with fail
 refine (fit_any false _ _ _ _ _ hs5 H5.out.2).mono ?_
 rw [H5.out.1]
 rintro e w6 ⟨A6, n6, c6, xs6, rfl, hs6, hx6, hv6, hb6⟩
 have b2 := b2.below hb6 b2.lt
 have HB := Lib.hid (below_chain HB.out (by have := Hr.out; have := HB.out.size; omega) hb6)
 have H6 := Lib.hid hv6
 clear hb6 hv6
 have k3 := b2.c0
 have k4 := b2.c1
 have k5 := b2.f 0
 have k6 := b2.f 1
 go_wp2
 exact bodyPost_ret (v := .tuple #[.agg #[.bool (decide (fitZ (sg false v) < 0)), .slice A6 n6 c6], .int .i64 (fitE (sg false v))]) (by simp [results, Tryz.results157, go_sem, k3, k4]) rfl
  ⟨A6, n6, c6, xs6, rfl, hs6.ret b2 _ _, hx6, H6.out, by rw [Hr.out]; exact below_ret HB.out (show r <= r + 1 + 1 by omega) _ _⟩
end Go.Proofs.YtmncfbfepdbioaaGreatDoor
namespace Go.Proofs.YtmncfbfepdbioaaGreatDoor
open Go.RowKit
theorem tz_bound {k m : Nat} (hm : m % 2 = 1) (h : 2 ^ k * m < BIG) : k <= 4096 := by
 rcases Nat.lt_or_ge 4096 k with hk | hk
 . have a : pw 4096 <= pw k := pw_le (by omega)
   have b : pw k * 1 <= pw k * m := Nat.mul_le_mul_left _ (by omega)
   have c : pw k * m < pw 4096 := by rw [<- big_pw]; exact h
   omega
 . exact hk
theorem len_small {w : World} {A : Option Addr} {n c B : Nat} {xs : List Nat} (h : Sl w B A n c xs) (hx : Nz xs) (hb : val xs < BIG) : n <= 1000000 := by
 have a := (big_iff h.ok hx).1 hb
 have b := h.len
 omega
theorem gcd_next {X Y k m : Nat} (hY : Y % 2 = 1) (h : Y < X) (e : X - Y = 2 ^ k * m) : Nat.gcd m Y = Nat.gcd X Y := by
 rw [<- gcd_tz (k := k) hY, <- e, gcd_sub (by omega)]
theorem odd_le {X Y k m : Nat} (e : X - Y = 2 ^ k * m) : m <= X - Y := by
 rw [e]; exact Nat.le_mul_of_pos_left _ (Nat.pow_pos (by decide))
theorem rgcd_goodA (neg neg' : Bool) (A A' : Option Addr) (n c n' c' : Nat) (xs ys : List Nat) (w : World) (h : Sl w w.heap.size A n c xs) (h' : Sl w w.heap.size A' n' c' ys) (hv : vld neg xs = true) (hv' : vld neg' ys = true) (i j cc x y G v : Nat) (hi : i <= 4096) (hj : j <= 4096) (hX : val xs = 2 ^ i * x) (hY : val ys = 2 ^ j * y) (hx1 : x % 2 = 1) (hy1 : y % 2 = 1) (hc : i = cc) (hc2 : cc <= j) (hG : Nat.gcd x y = G) (hv9 : G * 2 ^ cc = v) :
 Calls Tryz.prog 157 #[.agg #[.bool neg, .slice A n c], .agg #[.bool neg', .slice A' n' c']] w (RetIE (fitZ (sg false v)) (fitE (sg false v)) w) := by
 have Hv9 := Lib.hid (And.intro hG hv9)
 have Hxy := Lib.hid (And.intro hX hY)
 have Hod := Lib.hid (And.intro hx1 hy1)
 have Hx0 := Lib.hid (fun q (hq : q < i) => tz_bit0 hX hq)
 have Hy0 := Lib.hid (fun q (hq : q < j) => tz_bit0 hY hq)
 have Hx1 := Lib.hid (tz_bit1 hX hx1)
 have Hy1 := Lib.hid (tz_bit1 hY hy1)
 have hxp : x ≠ 0 := by rintro rfl; omega
 have hyp : y ≠ 0 := by rintro rfl; omega
 have hxb : val xs < BIG := (big_iff h.ok (vld_true hv).2.1).2 (vld_true hv).1
 have hyb : val ys < BIG := (big_iff h'.ok (vld_true hv').2.1).2 (vld_true hv').1
 have HBG := Lib.hid (And.intro (Nat.lt_of_le_of_lt (show x <= val xs by rw [hX]; exact Nat.le_mul_of_pos_left _ (Nat.pow_pos (by decide))) hxb) (Nat.lt_of_le_of_lt (show y <= val ys by rw [hY]; exact Nat.le_mul_of_pos_left _ (Nat.pow_pos (by decide))) hyb))
 have i5 : ((n : Int) == 0) = false := by
  rw [beq_eq_false_iff_ne]; intro e
  have : xs = [] := List.eq_nil_of_length_eq_zero (by have := h.len; omega)
  rw [this] at hX
  have := Nat.mul_pos (Nat.pow_pos (n := i) (show 0 < 2 by decide)) (Nat.pos_of_ne_zero hxp)
  simp [val] at hX; omega
 have i6 : ((n' : Int) == 0) = false := by
  rw [beq_eq_false_iff_ne]; intro e
  have : ys = [] := List.eq_nil_of_length_eq_zero (by have := h'.len; omega)
  rw [this] at hY
  have := Nat.mul_pos (Nat.pow_pos (n := j) (show 0 < 2 by decide)) (Nat.pos_of_ne_zero hyp)
  simp [val] at hY; omega
 clear hG hv9 hX hY hx1 hy1 hxp hyp hxb hyb
 subst hc
 have Hg := Lib.hid (And.intro (vld_true hv) (vld_true hv'))
 have hlx := h.len
 have hly := h'.len
 have hn : n <= 1000000 := by have := Hg.out.1.1; omega
 have hn' : n' <= 1000000 := by have := Hg.out.2.1; omega
 clear hlx hly
 go_enter Tryz.func157, Tryz.ntmps157
 go_wp2_with fail
 generalize hW : World.alloc (World.alloc (World.alloc w _) _) _ = W
 obtain ⟨hb, hz, b0, b1, b2⟩ := sum_boxes neg neg' A A' n c n' c' w W hW
 have hs := h.on hb
 have hs' := h'.on hb
 clear hW
 refine (rvalid_any _ _ _ _ _ xs _ hs (Nat.le_refl _)).mono ?_
 rintro e w1 ⟨rfl, hb1⟩
 have hz1 : w.heap.size + 1 + 1 < w1.heap.size := by have := hb1.size; omega
 have b0' := b0.below hb1 (by omega)
 have b1' := b1.below hb1 (by omega)
 have b2' := b2.below hb1 (by omega)
 have hs1 := hs.on hb1
 have hs1' := hs'.on hb1
 have q0 := b1'.c0
 have q1 := b1'.c1
 go_wp2_with fail
 refine (rvalid_any _ _ _ _ _ ys _ hs1' (Nat.le_refl _)).mono ?_
 rintro e w2 ⟨rfl, hb2⟩
 clear q0 q1
 have HB := Lib.hid (below_chain (below_chain hb (by omega) hb1) (by omega) hb2)
 have b0 := b0'.below hb2 (by omega)
 have b1 := b1'.below hb2 (by omega)
 have b2 := b2'.below hb2 (by omega)
 have hs := hs1.on hb2
 have hs' := hs1'.on hb2
 clear hb1 hb2 b0' b1' b2' hs1 hs1' hb hz hz1
 generalize hr : w.heap.size = r at *
 have Hr := Lib.hid hr
 clear hr
 have k0 := b0.c0
 have k1 := b0.c1
 have He := Lib.hid (Blk.new w2 44 #[])
 have Hs := Lib.hid (hs.on (below_new w2 (.cells #[] 44)))
 have j1 := b0.lt
 go_upto_region 4 with (at_builtin; refine copy_app rfl _ _ rfl w2.heap.size n c _ _ xs rfl He.out rfl Hs.out ?_; intro A3 c3 w3 hs3 hg3)
 have D3 := below_grown (below_new w2 (.cells #[] 44)) hg3 (Nat.le_refl _) (by simp)
 clear k0 k1 j1 He Hs hg3
 have b0 := b0.below D3 b0.lt
 have b1 := b1.below D3 b1.lt
 have b2 := b2.below D3 b2.lt
 have hs' := hs'.on D3
 have HB := Lib.hid (below_chain HB.out (by have := Hr.out; have := HB.out.size; omega) D3)
 clear D3 hs
 have k0 := b1.c0
 have k1 := b1.c1
 have He := Lib.hid (Blk.new w3 44 #[])
 have Hs := Lib.hid (hs'.on (below_new w3 (.cells #[] 44)))
 have j1 := b1.lt
 go_upto_region 5 with (at_builtin; refine copy_app rfl _ _ rfl w3.heap.size n' c' _ _ ys rfl He.out rfl Hs.out ?_; intro A4 c4 w4 hs4 hg4)
 have D4 := below_grown (below_new w3 (.cells #[] 44)) hg4 (Nat.le_refl _) (by simp)
 clear k0 k1 j1 He Hs hg4
 have b0 := b0.below D4 b0.lt
 have b1 := b1.below D4 b1.lt
 have b2 := b2.below D4 b2.lt
 have hs3 := hs3.on D4
 have HB := Lib.hid (below_chain HB.out (by have := Hr.out; have := HB.out.size; omega) D4)
 clear D4 hs'
 clear b0 b1
 go_wp2_with fail
 go_loop [8] (fun iv => ∃ q : Nat, q <= i /\ iv = .int .i64 (q : Int)) (fun iv => i + 1 - (intOf iv).toNat)
 case atStart => exact ⟨0, by omega, rfl⟩
 case round =>
  obtain ⟨q, hq, rfl⟩ := hrel
  by_cases hqc : q < i
  . have C := rbit_any A3 n c3 _ q (q / 32) (q % 32) 0 xs _ hs3 (by omega) (by omega) (by omega) (Hx0.out q (by omega))
    go_wp2_with fail
    refine C.mono ?_
    clear C
    rintro e w5 ⟨rfl, rfl⟩
    have C := rbit_any A4 n' c4 _ q (q / 32) (q % 32) 0 ys _ hs4 (by omega) (by omega) (by omega) (Hy0.out q (by omega))
    go_wp2_with fail
    refine C.mono ?_
    clear C
    rintro e w5 ⟨rfl, rfl⟩
    go_wp2
    exact ⟨⟨q + 1, by omega, by go_num⟩, by simp [intOf]; omega⟩
  . obtain rfl : q = i := by omega
    have C := rbit_any A3 n c3 _ q (q / 32) (q % 32) 1 xs _ hs3 (by omega) (by omega) (by omega) (Hx1.out)
    go_wp2_with fail
    refine C.mono ?_
    clear C
    rintro e w5 ⟨rfl, rfl⟩
    go_wp2_with fail
    refine (rodd_any _ _ _ q x _ _ hs3 Hg.out.1.2.1 hn (by omega) Hxy.out.1 Hod.out.1).mono ?_
    rintro e w8 ⟨A8, n8, c8, xs8, rfl, hs8, hx8, hv8, hb8⟩
    have hs4 := hs4.on hb8
    have b2 := b2.below hb8 b2.lt
    have HB := Lib.hid (below_chain HB.out (by have := Hr.out; have := HB.out.size; omega) hb8)
    have H8 := Lib.hid (And.intro hv8 hx8)
    clear hb8 hv8 hx8
    go_wp2_with fail
    refine (rodd_any _ _ _ j y _ _ hs4 Hg.out.2.2.1 hn' (by omega) Hxy.out.2 Hod.out.2).mono ?_
    rintro e w9 ⟨A9, n9, c9, xs9, rfl, hs9, hx9, hv9, hb9⟩
    have hs8 := hs8.on hb9
    have b2 := b2.below hb9 b2.lt
    have HB := Lib.hid (below_chain HB.out (by have := Hr.out; have := HB.out.size; omega) hb9)
    have H9 := Lib.hid (And.intro hv9 hx9)
    clear hb9 hv9 hx9 hs3 hs4
    go_wp2_with fail
    go_loopg [6, 7, 9] (x + y) (fun g s6 s7 s9 wr => ∃ (Ax : Option Addr) (nx cx : Nat) (zx : List Nat) (Ay : Option Addr) (ny cy : Nat) (zy : List Nat), s6 = .slice Ax nx cx /\ s7 = .slice Ay ny cy /\ g = val zx + val zy ∧
     Sl wr wr.heap.size Ax nx cx zx /\ Sl wr wr.heap.size Ay ny cy zy /\ Hid (Nz zx) /\ Hid (Nz zy) /\ Hid (val zx % 2 = 1 /\ val zy % 2 = 1 /\ Nat.gcd (val zx) (val zy) = G /\ (val zx < BIG /\ val zy < BIG)) /\ Hid (Bx wr (r + 1 + 1) false none 0 0) /\ Hid (Below r w wr))
    case atStart => exact ⟨A8, n8, c8, xs8, A9, n9, c9, xs9, rfl, rfl, by rw [H8.out.1, H9.out.1], hs8, hs9, H8.out.2, H9.out.2, by rw [Hid, H8.out.1, H9.out.1]; exact ⟨Hod.out.1, Hod.out.2, Hv9.out.1, HBG.out.1, HBG.out.2⟩, b2, HB.out⟩
    case round =>
     clear hs8 hs9 b2
     obtain ⟨Ax, nx, cx, zx, Ay, ny, cy, zy, rfl, rfl, rfl, hsx, hsy, Hzx, Hzy, Hp, Hb2, HBr⟩ := hrel
     generalize hX : val zx = X at *
     generalize hY : val zy = Y at *
     have HX := Lib.hid hX
     have HY := Lib.hid hY
     clear hX hY
     have C1 := rorder_any _ _ _ _ _ _ _ _ _ _ _ hsx hsy Hzx.out Hzy.out
     rw [HX.out, HY.out] at C1
     go_wp2_with fail
     refine C1.mono ?_
     clear C1
     rintro e w10 ⟨rfl, q1, rfl⟩
     by_cases heq : X = Y
     . subst heq
       rw [cmpv_eq]
       have hnx := len_small hsx Hzx.out (by rw [HX.out]; exact Hp.out.2.2.2.1)
       have hsq := hsx.drewN q1
       have b2q := Hb2.out.drewN q1
       have HBq := Lib.hid (below_drewN HBr.out q1)
       go_wp2_with fail
       refine (rleft_any _ _ _ q (q / 32) (q % 32) _ _ hsq hnx (by omega) (by omega) (by omega)).mono ?_
       rintro e w12 ⟨A12, n12, c12, xs12, rfl, hs12, hx12, hv12, hb12⟩
       have H12 := Lib.hid (show val xs12 = v by rw [hv12, HX.out, <- Hv9.out.2, <- Hp.out.2.2.1, Nat.gcd_self])
       have b12 := b2q.below hb12 b2q.lt
       have HB12 := Lib.hid (below_chain HBq.out (by have := Hr.out; have := HBq.out.size; omega) hb12)
       clear hb12 hv12 hsq b2q
       go_wp2_with fail
       refine (fit_any false _ _ _ _ _ hs12 hx12).mono ?_
       rw [H12.out]
       rintro e w13 ⟨A13, n13, c13, xs13, rfl, hs13, hx13, hv13, hb13⟩
       have b13 := b12.below hb13 b12.lt
       have HB13 := Lib.hid (below_chain HB12.out (by have := Hr.out; have := HB12.out.size; omega) hb13)
       have H13 := Lib.hid hv13
       clear hb13 hv13 b12
       have k3 := b13.c0
       have k4 := b13.c1
       have k5 := b13.f 0
       have k6 := b13.f 1
       go_wp2
       exact bodyPost_ret (v := .tuple #[.agg #[.bool (decide (fitZ (sg false v) < 0)), .slice A13 n13 c13], .int .i64 (fitE (sg false v))]) (by simp [results, Tryz.results157, go_sem, k3, k4]) rfl
        ⟨A13, n13, c13, xs13, rfl, hs13.ret b13 _ _, hx13, H13.out, by rw [Hr.out]; exact below_ret HB13.out (show r <= r + 1 + 1 by omega) _ _⟩
     . rcases Nat.lt_or_ge Y X with hlt | hlt
       . rw [cmpv_gt hlt]
         have C2 := rorder_any _ _ _ _ _ _ _ _ _ _ _ (hsx.drewN q1) (hsy.drewN q1) Hzx.out Hzy.out
         rw [HX.out, HY.out, cmpv_gt hlt] at C2
         go_wp2_with fail
         refine C2.mono ?_
         clear C2
         rintro e w11 ⟨rfl, q2, rfl⟩
         obtain ⟨k5, m5, he5, ho5, _⟩ := tz_of (X - Y) (by omega)
         have hk6 := tz_bound ho5 (by rw [<- he5]; have := Hp.out.2.2.2; omega)
         have Hk := Lib.hid (And.intro he5 ho5)
         have Hg5 := Lib.hid (gcd_next Hp.out.2.1 hlt he5)
         have Hm5 := Lib.hid (odd_le he5)
         clear he5 ho5
         have hsb := hsx.drewN (q1 + q2)
         have hss := hsy.drewN (q1 + q2)
         have b2q := Hb2.out.drewN (q1 + q2)
         have HBq := Lib.hid (below_drewN HBr.out (q1 + q2))
         go_wp2_with fail
         refine (rminus_any _ _ _ _ _ _ _ _ _ hsb hss Hzy.out (by rw [HX.out, HY.out]; omega)).mono ?_
         rintro e w6 ⟨A6, n6, c6, xs6, rfl, hs6, hx6, hv6, hb6⟩
         have H6 := Lib.hid (show val xs6 = 2 ^ k5 * m5 by rw [hv6, HX.out, HY.out]; exact Hk.out.1)
         have hn6 := len_small hs6 hx6 (by rw [hv6, HX.out, HY.out]; have := Hp.out.2.2.2; omega)
         have Hss := Lib.hid (hss.on hb6)
         have b6 := b2q.below hb6 b2q.lt
         have HB6 := Lib.hid (below_chain HBq.out (by have := Hr.out; have := HBq.out.size; omega) hb6)
         clear hb6 hv6 hsb
         go_wp2_with fail
         refine (rodd_any _ _ _ k5 m5 _ _ hs6 hx6 hn6 (by omega) H6.out Hk.out.2).mono ?_
         rintro e w7 ⟨A7, n7, c7, xs7, rfl, hs7, hx7, hv7, hb7⟩
         have Hs7 := Lib.hid (Hss.out.on hb7)
         have b7 := b6.below hb7 b6.lt
         have HB7 := Lib.hid (below_chain HB6.out (by have := Hr.out; have := HB6.out.size; omega) hb7)
         have H7 := Lib.hid (And.intro hv7 hx7)
         clear hb7 hv7 hx7 b6
         go_wp2
         go_roundg (m5 + Y)
         case measure => have := Hm5.out; have := Hp.out.1; have := Hp.out.2.1; omega
         case rel => exact ⟨A7, n7, c7, xs7, _, _, _, _, rfl, rfl, by rw [H7.out.1, HY.out], hs7, Hs7.out, H7.out.2, Hzy.out, by rw [Hid, H7.out.1, HY.out]; exact ⟨Hk.out.2, Hp.out.2.1, Hg5.out.trans Hp.out.2.2.1, by have := Hm5.out; have := Hp.out.2.2.2; omega⟩, b7, HB7.out⟩
       . have hlt : X < Y := by omega
         rw [cmpv_lt hlt]
         have C2 := rorder_any _ _ _ _ _ _ _ _ _ _ _ (hsx.drewN q1) (hsy.drewN q1) Hzx.out Hzy.out
         rw [HX.out, HY.out, cmpv_lt hlt] at C2
         go_wp2_with fail
         refine C2.mono ?_
         clear C2
         rintro e w11 ⟨rfl, q2, rfl⟩
         obtain ⟨k5, m5, he5, ho5, _⟩ := tz_of (Y - X) (by omega)
         have hk6 := tz_bound ho5 (by rw [<- he5]; have := Hp.out.2.2.2; omega)
         have Hk := Lib.hid (And.intro he5 ho5)
         have Hg5 := Lib.hid (gcd_next Hp.out.1 hlt he5)
         have Hm5 := Lib.hid (odd_le he5)
         clear he5 ho5
         have hsb := hsy.drewN (q1 + q2)
         have hss := hsx.drewN (q1 + q2)
         have b2q := Hb2.out.drewN (q1 + q2)
         have HBq := Lib.hid (below_drewN HBr.out (q1 + q2))
         go_wp2_with fail
         refine (rminus_any _ _ _ _ _ _ _ _ _ hsb hss Hzx.out (by rw [HY.out, HX.out]; omega)).mono ?_
         rintro e w6 ⟨A6, n6, c6, xs6, rfl, hs6, hx6, hv6, hb6⟩
         have H6 := Lib.hid (show val xs6 = 2 ^ k5 * m5 by rw [hv6, HY.out, HX.out]; exact Hk.out.1)
         have hn6 := len_small hs6 hx6 (by rw [hv6, HY.out, HX.out]; have := Hp.out.2.2.2; omega)
         have Hss := Lib.hid (hss.on hb6)
         have b6 := b2q.below hb6 b2q.lt
         have HB6 := Lib.hid (below_chain HBq.out (by have := Hr.out; have := HBq.out.size; omega) hb6)
         clear hb6 hv6 hsb
         go_wp2_with fail
         refine (rodd_any _ _ _ k5 m5 _ _ hs6 hx6 hn6 (by omega) H6.out Hk.out.2).mono ?_
         rintro e w7 ⟨A7, n7, c7, xs7, rfl, hs7, hx7, hv7, hb7⟩
         have Hs7 := Lib.hid (Hss.out.on hb7)
         have b7 := b6.below hb7 b6.lt
         have HB7 := Lib.hid (below_chain HB6.out (by have := Hr.out; have := HB6.out.size; omega) hb7)
         have H7 := Lib.hid (And.intro hv7 hx7)
         clear hb7 hv7 hx7 b6
         go_wp2
         go_roundg (m5 + X)
         case measure => have := Hm5.out; have := Hp.out.1; have := Hp.out.2.1; omega
         case rel => exact ⟨A7, n7, c7, xs7, _, _, _, _, rfl, rfl, by rw [H7.out.1, HX.out], hs7, Hs7.out, H7.out.2, Hzx.out, by rw [Hid, H7.out.1, HX.out]; exact ⟨Hk.out.2, Hp.out.1, Hg5.out.trans ((Nat.gcd_comm _ _).trans Hp.out.2.2.1), by have := Hm5.out; have := Hp.out.2.2.2; omega⟩, b7, HB7.out⟩
theorem rgcd_goodB (neg neg' : Bool) (A A' : Option Addr) (n c n' c' : Nat) (xs ys : List Nat) (w : World) (h : Sl w w.heap.size A n c xs) (h' : Sl w w.heap.size A' n' c' ys) (hv : vld neg xs = true) (hv' : vld neg' ys = true) (i j cc x y G v : Nat) (hi : i <= 4096) (hj : j <= 4096) (hX : val xs = 2 ^ i * x) (hY : val ys = 2 ^ j * y) (hx1 : x % 2 = 1) (hy1 : y % 2 = 1) (hc : j = cc) (hc2 : cc < i) (hG : Nat.gcd x y = G) (hv9 : G * 2 ^ cc = v) :
 Calls Tryz.prog 157 #[.agg #[.bool neg, .slice A n c], .agg #[.bool neg', .slice A' n' c']] w (RetIE (fitZ (sg false v)) (fitE (sg false v)) w) := by
 have Hv9 := Lib.hid (And.intro hG hv9)
 have Hxy := Lib.hid (And.intro hX hY)
 have Hod := Lib.hid (And.intro hx1 hy1)
 have Hx0 := Lib.hid (fun q (hq : q < i) => tz_bit0 hX hq)
 have Hy0 := Lib.hid (fun q (hq : q < j) => tz_bit0 hY hq)
 have Hx1 := Lib.hid (tz_bit1 hX hx1)
 have Hy1 := Lib.hid (tz_bit1 hY hy1)
 have hxp : x ≠ 0 := by rintro rfl; omega
 have hyp : y ≠ 0 := by rintro rfl; omega
 have hxb : val xs < BIG := (big_iff h.ok (vld_true hv).2.1).2 (vld_true hv).1
 have hyb : val ys < BIG := (big_iff h'.ok (vld_true hv').2.1).2 (vld_true hv').1
 have HBG := Lib.hid (And.intro (Nat.lt_of_le_of_lt (show x <= val xs by rw [hX]; exact Nat.le_mul_of_pos_left _ (Nat.pow_pos (by decide))) hxb) (Nat.lt_of_le_of_lt (show y <= val ys by rw [hY]; exact Nat.le_mul_of_pos_left _ (Nat.pow_pos (by decide))) hyb))
 have i5 : ((n : Int) == 0) = false := by
  rw [beq_eq_false_iff_ne]; intro e
  have : xs = [] := List.eq_nil_of_length_eq_zero (by have := h.len; omega)
  rw [this] at hX
  have := Nat.mul_pos (Nat.pow_pos (n := i) (show 0 < 2 by decide)) (Nat.pos_of_ne_zero hxp)
  simp [val] at hX; omega
 have i6 : ((n' : Int) == 0) = false := by
  rw [beq_eq_false_iff_ne]; intro e
  have : ys = [] := List.eq_nil_of_length_eq_zero (by have := h'.len; omega)
  rw [this] at hY
  have := Nat.mul_pos (Nat.pow_pos (n := j) (show 0 < 2 by decide)) (Nat.pos_of_ne_zero hyp)
  simp [val] at hY; omega
 clear hG hv9 hX hY hx1 hy1 hxp hyp hxb hyb
 subst hc
 have Hg := Lib.hid (And.intro (vld_true hv) (vld_true hv'))
 have hlx := h.len
 have hly := h'.len
 have hn : n <= 1000000 := by have := Hg.out.1.1; omega
 have hn' : n' <= 1000000 := by have := Hg.out.2.1; omega
 clear hlx hly
 go_enter Tryz.func157, Tryz.ntmps157
 go_wp2_with fail
 generalize hW : World.alloc (World.alloc (World.alloc w _) _) _ = W
 obtain ⟨hb, hz, b0, b1, b2⟩ := sum_boxes neg neg' A A' n c n' c' w W hW
 have hs := h.on hb
 have hs' := h'.on hb
 clear hW
 refine (rvalid_any _ _ _ _ _ xs _ hs (Nat.le_refl _)).mono ?_
 rintro e w1 ⟨rfl, hb1⟩
 have hz1 : w.heap.size + 1 + 1 < w1.heap.size := by have := hb1.size; omega
 have b0' := b0.below hb1 (by omega)
 have b1' := b1.below hb1 (by omega)
 have b2' := b2.below hb1 (by omega)
 have hs1 := hs.on hb1
 have hs1' := hs'.on hb1
 have q0 := b1'.c0
 have q1 := b1'.c1
 go_wp2_with fail
 refine (rvalid_any _ _ _ _ _ ys _ hs1' (Nat.le_refl _)).mono ?_
 rintro e w2 ⟨rfl, hb2⟩
 clear q0 q1
 have HB := Lib.hid (below_chain (below_chain hb (by omega) hb1) (by omega) hb2)
 have b0 := b0'.below hb2 (by omega)
 have b1 := b1'.below hb2 (by omega)
 have b2 := b2'.below hb2 (by omega)
 have hs := hs1.on hb2
 have hs' := hs1'.on hb2
 clear hb1 hb2 b0' b1' b2' hs1 hs1' hb hz hz1
 generalize hr : w.heap.size = r at *
 have Hr := Lib.hid hr
 clear hr
 have k0 := b0.c0
 have k1 := b0.c1
 have He := Lib.hid (Blk.new w2 44 #[])
 have Hs := Lib.hid (hs.on (below_new w2 (.cells #[] 44)))
 have j1 := b0.lt
 go_upto_region 4 with (at_builtin; refine copy_app rfl _ _ rfl w2.heap.size n c _ _ xs rfl He.out rfl Hs.out ?_; intro A3 c3 w3 hs3 hg3)
 have D3 := below_grown (below_new w2 (.cells #[] 44)) hg3 (Nat.le_refl _) (by simp)
 clear k0 k1 j1 He Hs hg3
 have b0 := b0.below D3 b0.lt
 have b1 := b1.below D3 b1.lt
 have b2 := b2.below D3 b2.lt
 have hs' := hs'.on D3
 have HB := Lib.hid (below_chain HB.out (by have := Hr.out; have := HB.out.size; omega) D3)
 clear D3 hs
 have k0 := b1.c0
 have k1 := b1.c1
 have He := Lib.hid (Blk.new w3 44 #[])
 have Hs := Lib.hid (hs'.on (below_new w3 (.cells #[] 44)))
 have j1 := b1.lt
 go_upto_region 5 with (at_builtin; refine copy_app rfl _ _ rfl w3.heap.size n' c' _ _ ys rfl He.out rfl Hs.out ?_; intro A4 c4 w4 hs4 hg4)
 have D4 := below_grown (below_new w3 (.cells #[] 44)) hg4 (Nat.le_refl _) (by simp)
 clear k0 k1 j1 He Hs hg4
 have b0 := b0.below D4 b0.lt
 have b1 := b1.below D4 b1.lt
 have b2 := b2.below D4 b2.lt
 have hs3 := hs3.on D4
 have HB := Lib.hid (below_chain HB.out (by have := Hr.out; have := HB.out.size; omega) D4)
 clear D4 hs'
 clear b0 b1
 go_wp2_with fail
 go_loop [8] (fun iv => ∃ q : Nat, q <= j /\ iv = .int .i64 (q : Int)) (fun iv => j + 1 - (intOf iv).toNat)
 case atStart => exact ⟨0, by omega, rfl⟩
 case round =>
  obtain ⟨q, hq, rfl⟩ := hrel
  by_cases hqc : q < j
  . have C := rbit_any A3 n c3 _ q (q / 32) (q % 32) 0 xs _ hs3 (by omega) (by omega) (by omega) (Hx0.out q (by omega))
    go_wp2_with fail
    refine C.mono ?_
    clear C
    rintro e w5 ⟨rfl, rfl⟩
    have C := rbit_any A4 n' c4 _ q (q / 32) (q % 32) 0 ys _ hs4 (by omega) (by omega) (by omega) (Hy0.out q (by omega))
    go_wp2_with fail
    refine C.mono ?_
    clear C
    rintro e w5 ⟨rfl, rfl⟩
    go_wp2
    exact ⟨⟨q + 1, by omega, by go_num⟩, by simp [intOf]; omega⟩
  . obtain rfl : q = j := by omega
    have C := rbit_any A3 n c3 _ q (q / 32) (q % 32) 0 xs _ hs3 (by omega) (by omega) (by omega) (Hx0.out q hc2)
    go_wp2_with fail
    refine C.mono ?_
    clear C
    rintro e w5 ⟨rfl, rfl⟩
    have C := rbit_any A4 n' c4 _ q (q / 32) (q % 32) 1 ys _ hs4 (by omega) (by omega) (by omega) (Hy1.out)
    go_wp2_with fail
    refine C.mono ?_
    clear C
    rintro e w5 ⟨rfl, rfl⟩
    go_wp2_with fail
    refine (rodd_any _ _ _ i x _ _ hs3 Hg.out.1.2.1 hn (by omega) Hxy.out.1 Hod.out.1).mono ?_
    rintro e w8 ⟨A8, n8, c8, xs8, rfl, hs8, hx8, hv8, hb8⟩
    have hs4 := hs4.on hb8
    have b2 := b2.below hb8 b2.lt
    have HB := Lib.hid (below_chain HB.out (by have := Hr.out; have := HB.out.size; omega) hb8)
    have H8 := Lib.hid (And.intro hv8 hx8)
    clear hb8 hv8 hx8
    go_wp2_with fail
    refine (rodd_any _ _ _ q y _ _ hs4 Hg.out.2.2.1 hn' (by omega) Hxy.out.2 Hod.out.2).mono ?_
    rintro e w9 ⟨A9, n9, c9, xs9, rfl, hs9, hx9, hv9, hb9⟩
    have hs8 := hs8.on hb9
    have b2 := b2.below hb9 b2.lt
    have HB := Lib.hid (below_chain HB.out (by have := Hr.out; have := HB.out.size; omega) hb9)
    have H9 := Lib.hid (And.intro hv9 hx9)
    clear hb9 hv9 hx9 hs3 hs4
    go_wp2_with fail
    go_loopg [6, 7, 9] (x + y) (fun g s6 s7 s9 wr => ∃ (Ax : Option Addr) (nx cx : Nat) (zx : List Nat) (Ay : Option Addr) (ny cy : Nat) (zy : List Nat), s6 = .slice Ax nx cx /\ s7 = .slice Ay ny cy /\ g = val zx + val zy ∧
     Sl wr wr.heap.size Ax nx cx zx /\ Sl wr wr.heap.size Ay ny cy zy /\ Hid (Nz zx) /\ Hid (Nz zy) /\ Hid (val zx % 2 = 1 /\ val zy % 2 = 1 /\ Nat.gcd (val zx) (val zy) = G /\ (val zx < BIG /\ val zy < BIG)) /\ Hid (Bx wr (r + 1 + 1) false none 0 0) /\ Hid (Below r w wr))
    case atStart => exact ⟨A8, n8, c8, xs8, A9, n9, c9, xs9, rfl, rfl, by rw [H8.out.1, H9.out.1], hs8, hs9, H8.out.2, H9.out.2, by rw [Hid, H8.out.1, H9.out.1]; exact ⟨Hod.out.1, Hod.out.2, Hv9.out.1, HBG.out.1, HBG.out.2⟩, b2, HB.out⟩
    case round =>
     clear hs8 hs9 b2
     obtain ⟨Ax, nx, cx, zx, Ay, ny, cy, zy, rfl, rfl, rfl, hsx, hsy, Hzx, Hzy, Hp, Hb2, HBr⟩ := hrel
     generalize hX : val zx = X at *
     generalize hY : val zy = Y at *
     have HX := Lib.hid hX
     have HY := Lib.hid hY
     clear hX hY
     have C1 := rorder_any _ _ _ _ _ _ _ _ _ _ _ hsx hsy Hzx.out Hzy.out
     rw [HX.out, HY.out] at C1
     go_wp2_with fail
     refine C1.mono ?_
     clear C1
     rintro e w10 ⟨rfl, q1, rfl⟩
     by_cases heq : X = Y
     . subst heq
       rw [cmpv_eq]
       have hnx := len_small hsx Hzx.out (by rw [HX.out]; exact Hp.out.2.2.2.1)
       have hsq := hsx.drewN q1
       have b2q := Hb2.out.drewN q1
       have HBq := Lib.hid (below_drewN HBr.out q1)
       go_wp2_with fail
       refine (rleft_any _ _ _ q (q / 32) (q % 32) _ _ hsq hnx (by omega) (by omega) (by omega)).mono ?_
       rintro e w12 ⟨A12, n12, c12, xs12, rfl, hs12, hx12, hv12, hb12⟩
       have H12 := Lib.hid (show val xs12 = v by rw [hv12, HX.out, <- Hv9.out.2, <- Hp.out.2.2.1, Nat.gcd_self])
       have b12 := b2q.below hb12 b2q.lt
       have HB12 := Lib.hid (below_chain HBq.out (by have := Hr.out; have := HBq.out.size; omega) hb12)
       clear hb12 hv12 hsq b2q
       go_wp2_with fail
       refine (fit_any false _ _ _ _ _ hs12 hx12).mono ?_
       rw [H12.out]
       rintro e w13 ⟨A13, n13, c13, xs13, rfl, hs13, hx13, hv13, hb13⟩
       have b13 := b12.below hb13 b12.lt
       have HB13 := Lib.hid (below_chain HB12.out (by have := Hr.out; have := HB12.out.size; omega) hb13)
       have H13 := Lib.hid hv13
       clear hb13 hv13 b12
       have k3 := b13.c0
       have k4 := b13.c1
       have k5 := b13.f 0
       have k6 := b13.f 1
       go_wp2
       exact bodyPost_ret (v := .tuple #[.agg #[.bool (decide (fitZ (sg false v) < 0)), .slice A13 n13 c13], .int .i64 (fitE (sg false v))]) (by simp [results, Tryz.results157, go_sem, k3, k4]) rfl
        ⟨A13, n13, c13, xs13, rfl, hs13.ret b13 _ _, hx13, H13.out, by rw [Hr.out]; exact below_ret HB13.out (show r <= r + 1 + 1 by omega) _ _⟩
     . rcases Nat.lt_or_ge Y X with hlt | hlt
       . rw [cmpv_gt hlt]
         have C2 := rorder_any _ _ _ _ _ _ _ _ _ _ _ (hsx.drewN q1) (hsy.drewN q1) Hzx.out Hzy.out
         rw [HX.out, HY.out, cmpv_gt hlt] at C2
         go_wp2_with fail
         refine C2.mono ?_
         clear C2
         rintro e w11 ⟨rfl, q2, rfl⟩
         obtain ⟨k5, m5, he5, ho5, _⟩ := tz_of (X - Y) (by omega)
         have hk6 := tz_bound ho5 (by rw [<- he5]; have := Hp.out.2.2.2; omega)
         have Hk := Lib.hid (And.intro he5 ho5)
         have Hg5 := Lib.hid (gcd_next Hp.out.2.1 hlt he5)
         have Hm5 := Lib.hid (odd_le he5)
         clear he5 ho5
         have hsb := hsx.drewN (q1 + q2)
         have hss := hsy.drewN (q1 + q2)
         have b2q := Hb2.out.drewN (q1 + q2)
         have HBq := Lib.hid (below_drewN HBr.out (q1 + q2))
         go_wp2_with fail
         refine (rminus_any _ _ _ _ _ _ _ _ _ hsb hss Hzy.out (by rw [HX.out, HY.out]; omega)).mono ?_
         rintro e w6 ⟨A6, n6, c6, xs6, rfl, hs6, hx6, hv6, hb6⟩
         have H6 := Lib.hid (show val xs6 = 2 ^ k5 * m5 by rw [hv6, HX.out, HY.out]; exact Hk.out.1)
         have hn6 := len_small hs6 hx6 (by rw [hv6, HX.out, HY.out]; have := Hp.out.2.2.2; omega)
         have Hss := Lib.hid (hss.on hb6)
         have b6 := b2q.below hb6 b2q.lt
         have HB6 := Lib.hid (below_chain HBq.out (by have := Hr.out; have := HBq.out.size; omega) hb6)
         clear hb6 hv6 hsb
         go_wp2_with fail
         refine (rodd_any _ _ _ k5 m5 _ _ hs6 hx6 hn6 (by omega) H6.out Hk.out.2).mono ?_
         rintro e w7 ⟨A7, n7, c7, xs7, rfl, hs7, hx7, hv7, hb7⟩
         have Hs7 := Lib.hid (Hss.out.on hb7)
         have b7 := b6.below hb7 b6.lt
         have HB7 := Lib.hid (below_chain HB6.out (by have := Hr.out; have := HB6.out.size; omega) hb7)
         have H7 := Lib.hid (And.intro hv7 hx7)
         clear hb7 hv7 hx7 b6
         go_wp2
         go_roundg (m5 + Y)
         case measure => have := Hm5.out; have := Hp.out.1; have := Hp.out.2.1; omega
         case rel => exact ⟨A7, n7, c7, xs7, _, _, _, _, rfl, rfl, by rw [H7.out.1, HY.out], hs7, Hs7.out, H7.out.2, Hzy.out, by rw [Hid, H7.out.1, HY.out]; exact ⟨Hk.out.2, Hp.out.2.1, Hg5.out.trans Hp.out.2.2.1, by have := Hm5.out; have := Hp.out.2.2.2; omega⟩, b7, HB7.out⟩
       . have hlt : X < Y := by omega
         rw [cmpv_lt hlt]
         have C2 := rorder_any _ _ _ _ _ _ _ _ _ _ _ (hsx.drewN q1) (hsy.drewN q1) Hzx.out Hzy.out
         rw [HX.out, HY.out, cmpv_lt hlt] at C2
         go_wp2_with fail
         refine C2.mono ?_
         clear C2
         rintro e w11 ⟨rfl, q2, rfl⟩
         obtain ⟨k5, m5, he5, ho5, _⟩ := tz_of (Y - X) (by omega)
         have hk6 := tz_bound ho5 (by rw [<- he5]; have := Hp.out.2.2.2; omega)
         have Hk := Lib.hid (And.intro he5 ho5)
         have Hg5 := Lib.hid (gcd_next Hp.out.1 hlt he5)
         have Hm5 := Lib.hid (odd_le he5)
         clear he5 ho5
         have hsb := hsy.drewN (q1 + q2)
         have hss := hsx.drewN (q1 + q2)
         have b2q := Hb2.out.drewN (q1 + q2)
         have HBq := Lib.hid (below_drewN HBr.out (q1 + q2))
         go_wp2_with fail
         refine (rminus_any _ _ _ _ _ _ _ _ _ hsb hss Hzx.out (by rw [HY.out, HX.out]; omega)).mono ?_
         rintro e w6 ⟨A6, n6, c6, xs6, rfl, hs6, hx6, hv6, hb6⟩
         have H6 := Lib.hid (show val xs6 = 2 ^ k5 * m5 by rw [hv6, HY.out, HX.out]; exact Hk.out.1)
         have hn6 := len_small hs6 hx6 (by rw [hv6, HY.out, HX.out]; have := Hp.out.2.2.2; omega)
         have Hss := Lib.hid (hss.on hb6)
         have b6 := b2q.below hb6 b2q.lt
         have HB6 := Lib.hid (below_chain HBq.out (by have := Hr.out; have := HBq.out.size; omega) hb6)
         clear hb6 hv6 hsb
         go_wp2_with fail
         refine (rodd_any _ _ _ k5 m5 _ _ hs6 hx6 hn6 (by omega) H6.out Hk.out.2).mono ?_
         rintro e w7 ⟨A7, n7, c7, xs7, rfl, hs7, hx7, hv7, hb7⟩
         have Hs7 := Lib.hid (Hss.out.on hb7)
         have b7 := b6.below hb7 b6.lt
         have HB7 := Lib.hid (below_chain HB6.out (by have := Hr.out; have := HB6.out.size; omega) hb7)
         have H7 := Lib.hid (And.intro hv7 hx7)
         clear hb7 hv7 hx7 b6
         go_wp2
         go_roundg (m5 + X)
         case measure => have := Hm5.out; have := Hp.out.1; have := Hp.out.2.1; omega
         case rel => exact ⟨A7, n7, c7, xs7, _, _, _, _, rfl, rfl, by rw [H7.out.1, HX.out], hs7, Hs7.out, H7.out.2, Hzx.out, by rw [Hid, H7.out.1, HX.out]; exact ⟨Hk.out.2, Hp.out.1, Hg5.out.trans ((Nat.gcd_comm _ _).trans Hp.out.2.2.1), by have := Hm5.out; have := Hp.out.2.2.2; omega⟩, b7, HB7.out⟩
theorem rgcd_any (neg neg' : Bool) (A A' : Option Addr) (n c n' c' : Nat) (xs ys : List Nat) (w : World) (h : Sl w w.heap.size A n c xs) (h' : Sl w w.heap.size A' n' c' ys) (hv : vld neg xs = true) (hv' : vld neg' ys = true) :
 Calls Tryz.prog 157 #[.agg #[.bool neg, .slice A n c], .agg #[.bool neg', .slice A' n' c']] w (RetIE (fitZ (sg false (Nat.gcd (val xs) (val ys)))) (fitE (sg false (Nat.gcd (val xs) (val ys)))) w) := by
 by_cases h0 : n = 0
 . have e : xs = [] := List.eq_nil_of_length_eq_zero (by rw [h.len]; exact h0)
   exact rgcd_zero1 neg neg' A A' n c n' c' xs ys w h h' hv hv' h0 _ (by rw [e]; simp [val])
 . by_cases h1 : n' = 0
   . have e : ys = [] := List.eq_nil_of_length_eq_zero (by rw [h'.len]; exact h1)
     exact rgcd_zero2 neg neg' A A' n c n' c' xs ys w h h' hv hv' h0 h1 _ (by rw [e]; simp [val])
   . have px : 0 < val xs := val_pos (vld_true hv).2.1 (by rintro rfl; have := h.len; simp at this; omega)
     have py : 0 < val ys := val_pos (vld_true hv').2.1 (by rintro rfl; have := h'.len; simp at this; omega)
     have bx : val xs < BIG := (big_iff h.ok (vld_true hv).2.1).2 (vld_true hv).1
     have by' : val ys < BIG := (big_iff h'.ok (vld_true hv').2.1).2 (vld_true hv').1
     obtain ⟨i, x, ex, ox, _⟩ := tz_of _ px
     obtain ⟨j, y, ey, oy, _⟩ := tz_of _ py
     have hi := tz_bound ox (by rw [<- ex]; exact bx)
     have hj := tz_bound oy (by rw [<- ey]; exact by')
     by_cases hij : i <= j
     . exact rgcd_goodA neg neg' A A' n c n' c' xs ys w h h' hv hv' i j i x y _ _ hi hj ex ey ox oy rfl hij rfl (by rw [ex, ey]; exact (gcd_common ox oy (.inl ⟨rfl, hij⟩)).symm)
     . exact rgcd_goodB neg neg' A A' n c n' c' xs ys w h h' hv hv' i j j x y _ _ hi hj ex ey ox oy rfl (by omega) rfl (by rw [ex, ey]; exact (gcd_common ox oy (.inr ⟨rfl, by omega⟩)).symm)
theorem rgcd_ov {neg neg' : Bool} {A A' : Option Addr} {n c n' c' : Nat} {xs ys : List Nat} {w : World} (h : Sl w w.heap.size A n c xs) (h' : Sl w w.heap.size A' n' c' ys) :
 Calls Tryz.prog 157 #[.agg #[.bool neg, .slice A n c], .agg #[.bool neg', .slice A' n' c']] w (RetIE (o2Z gcdZ (ov neg xs) (ov neg' ys)) (o2E gcdZ (ov neg xs) (ov neg' ys)) w) := by
 rcases hv : vld neg xs with _ | _
 . rw [ov_none hv]
   exact rgcd_bad1 neg neg' A A' n c n' c' xs w h hv
 . rw [ov_some hv]
   rcases hv' : vld neg' ys with _ | _
   . rw [ov_none hv']
     exact rgcd_bad2 neg neg' A A' n c n' c' xs ys w h h' hv hv'
   . rw [ov_some hv']
     have := rgcd_any neg neg' A A' n c n' c' xs ys w h h' hv hv'
     rw [sg_false] at this
     show Calls _ _ _ _ (RetIE (fitZ (gcdZ _ _)) (fitE (gcdZ _ _)) w)
     rw [gcdZ, sg_abs, sg_abs]
     exact this
end Go.Proofs.YtmncfbfepdbioaaGreatDoor
namespace Go.Proofs.YtmncfbfepdbioaaGreatDoor
open Go.RowKit
end Go.Proofs.YtmncfbfepdbioaaGreatDoor
namespace Go.Proofs.YtmncfbfepdbioaaGreatDoor
open Go.RowKit
end Go.Proofs.YtmncfbfepdbioaaGreatDoor
