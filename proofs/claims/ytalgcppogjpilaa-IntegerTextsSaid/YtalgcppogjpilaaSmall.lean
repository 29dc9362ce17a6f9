/-
  The walks of the reference's Valid and Of, and of Small at an int.
-/
import Derived.Test.YtalgcppogjpilaaWorks
namespace Go.Proofs.Ytalgcppogjpilaa
open Go.RowKit

set_option maxHeartbeats 400000 in
theorem rvalid_any (neg : Bool) (A : Option Addr) (n c B : Nat) (xs : List Nat) (w : World) (h : Sl w B A n c xs) (hB : B ≤ w.heap.size) :
    Calls Try.prog 22 #[.agg #[.bool neg, .slice A n c]] w fun e w' => e = .returned (.bool (vld neg xs)) ∧ Below w.heap.size w w' := by
  have hr := h.reach
  have hcr := h.capr
  have hc := h.cap
  have hl := h.len
  have hb := (Below.refl w.heap.size w).alloc (Nat.le_refl _) (.cells #[.bool neg, .slice A n c] 24)
  unfold vld
  rw [hl]
  by_cases h0 : n = 0
  · subst h0
    rw [if_pos rfl]
    clear hl
    go_enter Try.func22, Try.ntmps22
    go_wp2
    go_ret
    exact ⟨rfl, hb⟩
  · rw [if_neg h0]
    obtain ⟨ad, rfl, hadb, hc1⟩ := (h.alloc hB (.cells #[.bool neg, .slice A n c] 24)).cell (k := n - 1) (by omega)
    have i1 : (0 : Int) ≤ (n : Int) - 1 := by omega
    have i2 : (n : Int) - 1 < (n : Int) := by omega
    have i3 : ((n : Int) - 1).toNat = n - 1 := by omega
    have i4 : ((n : Int) == 0) = false := by rw [beq_eq_false_iff_ne]; omega
    clear hl
    by_cases h1 : n ≤ 128
    · have d1 : decide (128 < (n : Int)) = false := by simp; omega
      go_enter Try.func22, Try.ntmps22
      go_wp2
      go_ret
      refine ⟨ret_bool ?_, hb⟩
      rw [decide_eq_true h1, Bool.true_and, bne, beq_cast0]
    · have d1 : decide (128 < (n : Int)) = true := by simp; omega
      go_enter Try.func22, Try.ntmps22
      go_wp2
      go_ret
      refine ⟨ret_bool ?_, hb⟩
      rw [decide_eq_false h1, Bool.false_and]

theorem wrap64_u64 (z : Int) (h1 : -9223372036854775808 ≤ z) (h2 : z ≤ 9223372036854775807) : wrap64 (IntKind.u64.wrap z) = z := by
  rw [IntKind.wrap_u64]; unfold wrap64; omega

set_option maxHeartbeats 1000000 in
theorem small_of (A : Option Addr) (n c : Nat) (xs : List Nat) (z : Int) (w : World) (h : Sl w w.heap.size A n c xs) (hx : Nz xs) (hv : val xs = z.natAbs) (h1 : -9223372036854775808 ≤ z) (h2 : z ≤ 9223372036854775807) :
    Calls Try.prog 19 #[.agg #[.bool (decide (z < 0)), .slice A n c]] w fun e w' => e = .returned (.tuple #[.int .i64 z, .bool true]) ∧ Below w.heap.size w w' := by
  have hlen : n ≤ 2 := by
    have := length_le hx (n := 2) (by rw [hv]; omega)
    rw [h.len] at this
    exact this
  have hvld : vld (decide (z < 0)) xs = true := vld_of h.ok hx (by
    have e1 : val xs < 4294967296 ^ 2 := by rw [hv]; omega
    exact Nat.lt_of_lt_of_le e1 (Nat.pow_le_pow_right (by decide) (by decide))) (fun e => by rw [hv]; simp at e; omega)
  have Hv := Lib.hid hv
  clear hv
  have d2 : decide (2 < (n : Int)) = false := by simp; omega
  by_cases h0 : z < 0
  · rw [decide_eq_true h0] at hvld ⊢
    go_enter Try.func19, Try.ntmps19
    go_wp2_with fail
    have hs := h.on (below_new w (.cells #[.bool true, .slice A n c] 24))
    have b0 := Bx.new w true A n c
    refine (valid_any _ _ _ _ _ xs _ hs (Nat.le_refl _)).mono ?_
    rintro e w1 ⟨rfl, hb1⟩
    have hb := below_chain (below_new w (.cells #[.bool true, .slice A n c] 24)) (by simp) hb1
    have hs1 := hs.on hb1
    have b1 := b0.below hb1 (by simp)
    have k0 := b1.c0
    have k1 := b1.c1
    clear hb1 b0 hs
    go_wp2_with fail
    refine (wordOf_any _ _ _ _ xs _ hs1 hlen).mono ?_
    rintro e w2 ⟨rfl, rfl⟩
    rw [Hv.out]
    have hz : ((z.natAbs : Nat) : Int) = -z := by omega
    rw [hz]
    clear hz
    go_wp2
    rw [wrap64_u64 z h1 h2]
    go_ret2
    exact ⟨rfl, hb⟩
  · rw [decide_eq_false h0] at hvld ⊢
    go_enter Try.func19, Try.ntmps19
    go_wp2_with fail
    have hs := h.on (below_new w (.cells #[.bool false, .slice A n c] 24))
    have b0 := Bx.new w false A n c
    refine (valid_any _ _ _ _ _ xs _ hs (Nat.le_refl _)).mono ?_
    rintro e w1 ⟨rfl, hb1⟩
    have hb := below_chain (below_new w (.cells #[.bool false, .slice A n c] 24)) (by simp) hb1
    have hs1 := hs.on hb1
    have b1 := b0.below hb1 (by simp)
    have k0 := b1.c0
    have k1 := b1.c1
    clear hb1 b0 hs
    go_wp2_with fail
    refine (wordOf_any _ _ _ _ xs _ hs1 hlen).mono ?_
    rintro e w2 ⟨rfl, rfl⟩
    rw [Hv.out]
    have hz : ((z.natAbs : Nat) : Int) = z := by omega
    rw [hz]
    clear hz
    go_wp2
    go_ret2
    exact ⟨rfl, hb⟩

set_option maxHeartbeats 1000000 in
theorem rof_any (n : Int) (w : World) (h1 : -9223372036854775808 ≤ n) (h2 : n ≤ 9223372036854775807) :
    Calls Try.prog 24 #[.int .i64 n] w (RetI n w) := by
  by_cases h0 : n < 0
  · have W := Lib.hid (wrap_of_neg n h1 h0)
    have Hd := Lib.hid (show true = decide (n < 0) by simp; omega)
    go_enter Try.func24, Try.ntmps24
    go_wp2_with fail
    rw [W.out]
    have hrow : Row (((w.alloc (Obj.cells #[Value.bool false, Value.slice none 0 0] 24)).alloc (Obj.cells #[] 51)).alloc (Obj.cells #[Value.int IntKind.u32 (-n % 4294967296), Value.int IntKind.u32 (-n / 4294967296 % 4294967296)] 51)) (w.heap.size + 1 + 1)
        [(-n % 4294967296).toNat, (-n / 4294967296 % 4294967296).toNat] := by
      have e : #[Value.int IntKind.u32 (-n % 4294967296), Value.int IntKind.u32 (-n / 4294967296 % 4294967296)] = (us [(-n % 4294967296).toNat, (-n / 4294967296 % 4294967296).toNat]).toArray := by
        simp [us]; omega
      rw [e]
      have := Blk.new ((w.alloc (Obj.cells #[Value.bool false, Value.slice none 0 0] 24)).alloc (Obj.cells #[] 51)) 51 (us [(-n % 4294967296).toNat, (-n / 4294967296 % 4294967296).toNat]).toArray
      simpa [Row] using this
    have hok : Ok [(-n % 4294967296).toNat, (-n / 4294967296 % 4294967296).toNat] := Ok.cons (by omega) (Ok.cons (by omega) Ok.nil)
    have Hm := Lib.hid (show val [(-n % 4294967296).toNat, (-n / 4294967296 % 4294967296).toNat] = n.natAbs by simp [val]; omega)
    have Hb := Lib.hid ((((Below.refl w.heap.size w).alloc (Nat.le_refl _) (.cells #[.bool false, .slice none 0 0] 24)).alloc (by simp) (.cells #[] 51)).alloc (by simp; omega) (.cells #[Value.int IntKind.u32 (-n % 4294967296), Value.int IntKind.u32 (-n / 4294967296 % 4294967296)] 51))
    have Hx := Lib.hid (((Bx.new w false none 0 0).alloc (.cells #[] 51)).alloc (.cells #[Value.int IntKind.u32 (-n % 4294967296), Value.int IntKind.u32 (-n / 4294967296 % 4294967296)] 51))
    have He : Hid (Blk (((w.alloc (Obj.cells #[Value.bool false, Value.slice none 0 0] 24)).alloc (Obj.cells #[] 51)).alloc (Obj.cells #[Value.int IntKind.u32 (-n % 4294967296), Value.int IntKind.u32 (-n / 4294967296 % 4294967296)] 51)) (w.heap.size + 1) 51 #[]) := by
      have := (Blk.new (w.alloc (Obj.cells #[Value.bool false, Value.slice none 0 0] 24)) 51 #[]).alloc (Obj.cells #[Value.int IntKind.u32 (-n % 4294967296), Value.int IntKind.u32 (-n / 4294967296 % 4294967296)] 51)
      simpa [Hid] using this
    generalize hW : World.alloc (World.alloc (World.alloc w _) _) _ = V at *
    clear hW
    have hz := hrow.lt
    have hsl := hrow.sl (B := V.heap.size) (n := 2) (c := 2) hz 0 (by simp) (by omega) (by omega) hok
    rw [List.drop_zero, List.take_of_length_le (by simp)] at hsl
    generalize [(-n % 4294967296).toNat, (-n / 4294967296 % 4294967296).toNat] = ys at *
    have Hl := Lib.hid hsl
    clear hsl
    refine (rtrim_any _ _ _ _ _ V Hl.out).mono ?_
    rintro e w3 ⟨⟨k, hk, rfl, hnz, hv⟩, rfl⟩
    have Hv := Lib.hid hv
    clear hv
    go_wp2_with (at_builtin; refine copy_app rfl _ _ rfl (w.heap.size + 1) k 2 V.heap.size _ _ rfl He.out rfl (Hl.out.to hk) ?_; intro A' c' w' hs' hg'; have hx' : Bx w' w.heap.size false none 0 0 := Blk.grown Hx.out hg' (by simp); have m0 := hx'.c0; have m1 := hx'.c1; have m2 := hx'.f 0; have m3 := hx'.f 1)
    exact bodyPost_ret (v := .agg #[.bool true, .slice A' k c']) (by simp [results, Try.results24, go_sem, m0, m1]) rfl
      ⟨A', k, c', _, ret_neg Hd.out, hs'.ret hx' _ _, hnz, by rw [Hv.out, Hm.out], below_ret (below_grown Hb.out hg' (by omega) (by omega)) (Nat.le_refl _) _ _⟩
  · have h3 : 0 ≤ n := by omega
    have Hd := Lib.hid (show false = decide (n < 0) by simp; omega)
    go_enter Try.func24, Try.ntmps24
    go_wp2_with fail
    have hrow : Row (((w.alloc (Obj.cells #[Value.bool false, Value.slice none 0 0] 24)).alloc (Obj.cells #[] 51)).alloc (Obj.cells #[Value.int IntKind.u32 (n % 4294967296), Value.int IntKind.u32 (n / 4294967296)] 51)) (w.heap.size + 1 + 1)
        [(n % 4294967296).toNat, (n / 4294967296).toNat] := by
      have e : #[Value.int IntKind.u32 (n % 4294967296), Value.int IntKind.u32 (n / 4294967296)] = (us [(n % 4294967296).toNat, (n / 4294967296).toNat]).toArray := by
        simp [us]; omega
      rw [e]
      have := Blk.new ((w.alloc (Obj.cells #[Value.bool false, Value.slice none 0 0] 24)).alloc (Obj.cells #[] 51)) 51 (us [(n % 4294967296).toNat, (n / 4294967296).toNat]).toArray
      simpa [Row] using this
    have hok : Ok [(n % 4294967296).toNat, (n / 4294967296).toNat] := Ok.cons (by omega) (Ok.cons (by omega) Ok.nil)
    have Hm := Lib.hid (show val [(n % 4294967296).toNat, (n / 4294967296).toNat] = n.natAbs by simp [val]; omega)
    have Hb := Lib.hid ((((Below.refl w.heap.size w).alloc (Nat.le_refl _) (.cells #[.bool false, .slice none 0 0] 24)).alloc (by simp) (.cells #[] 51)).alloc (by simp; omega) (.cells #[Value.int IntKind.u32 (n % 4294967296), Value.int IntKind.u32 (n / 4294967296)] 51))
    have Hx := Lib.hid (((Bx.new w false none 0 0).alloc (.cells #[] 51)).alloc (.cells #[Value.int IntKind.u32 (n % 4294967296), Value.int IntKind.u32 (n / 4294967296)] 51))
    have He : Hid (Blk (((w.alloc (Obj.cells #[Value.bool false, Value.slice none 0 0] 24)).alloc (Obj.cells #[] 51)).alloc (Obj.cells #[Value.int IntKind.u32 (n % 4294967296), Value.int IntKind.u32 (n / 4294967296)] 51)) (w.heap.size + 1) 51 #[]) := by
      have := (Blk.new (w.alloc (Obj.cells #[Value.bool false, Value.slice none 0 0] 24)) 51 #[]).alloc (Obj.cells #[Value.int IntKind.u32 (n % 4294967296), Value.int IntKind.u32 (n / 4294967296)] 51)
      simpa [Hid] using this
    generalize hW : World.alloc (World.alloc (World.alloc w _) _) _ = V at *
    clear hW
    have hz := hrow.lt
    have hsl := hrow.sl (B := V.heap.size) (n := 2) (c := 2) hz 0 (by simp) (by omega) (by omega) hok
    rw [List.drop_zero, List.take_of_length_le (by simp)] at hsl
    generalize [(n % 4294967296).toNat, (n / 4294967296).toNat] = ys at *
    have Hl := Lib.hid hsl
    clear hsl
    refine (rtrim_any _ _ _ _ _ V Hl.out).mono ?_
    rintro e w3 ⟨⟨k, hk, rfl, hnz, hv⟩, rfl⟩
    have Hv := Lib.hid hv
    clear hv
    go_wp2_with (at_builtin; refine copy_app rfl _ _ rfl (w.heap.size + 1) k 2 V.heap.size _ _ rfl He.out rfl (Hl.out.to hk) ?_; intro A' c' w' hs' hg'; have hx' : Bx w' w.heap.size false none 0 0 := Blk.grown Hx.out hg' (by simp); have m0 := hx'.c0; have m1 := hx'.c1; have m2 := hx'.f 0; have m3 := hx'.f 1)
    exact bodyPost_ret (v := .agg #[.bool false, .slice A' k c']) (by simp [results, Try.results24, go_sem, m0, m1]) rfl
      ⟨A', k, c', _, ret_neg Hd.out, hs'.ret hx' _ _, hnz, by rw [Hv.out, Hm.out], below_ret (below_grown Hb.out hg' (by omega) (by omega)) (Nat.le_refl _) _ _⟩

end Go.Proofs.Ytalgcppogjpilaa
