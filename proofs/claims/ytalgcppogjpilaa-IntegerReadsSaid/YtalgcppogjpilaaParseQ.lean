/-
  The walk of Parse, for any string.
-/
import Derived.Lib.PathFns
import Derived.Lib.IndexBytes
import Derived.Test.YtalgcppogjpilaaParseP
import Derived.Test.YtalgcppogjpilaaDivLong
namespace Go.Proofs.Ytalgcppogjpilaa
open Go.RowKit

/-- What stands in Parse when the digits l are still to be read. -/
structure Pa (w wr : World) (r N : Nat) (full : List UInt8) (v : Value) (n : Nat) (xs : List Nat) (l : List UInt8) : Prop where
  bx : Bx wr r false none 0 0
  own : wr.ownsRow (r + 1) 51 1 v n (us xs)
  ok : Ok xs
  nz : Nz xs
  sum : val xs * 10 ^ l.length + dnum l = N
  dig : ∀ x ∈ l, isD x = true
  st : (l = full ∧ v = .slice none 0 0 ∧ n = 0 ∧ xs = []) ∨ (0 < val xs ∧ l.length % 9 = 0)
  be : Below r w wr

/-- append(m, x) on a row of the call's own. -/
theorem app_one {w : World} {ops : Array Oper} {rest : List Oper} {o : Oper} {a : Act} {Q : Exit → Act → World → Prop} (hgd : o.guard = none) (s x : Operand)
    (ho : o.op = .call { callee := .builtin .append, args := #[s, x], argTypes := #[22, 22] }) (B n g0 cy : Nat) (v : Value) (xs : List Nat)
    (hs : a.eval s = v) (hown : w.ownsRow B 51 1 v n (us xs)) (hx : a.eval x = .slice (some ⟨g0, 0, none⟩) 1 1) (hr : Row w g0 [cy]) (hcy : cy < 4294967296) (hn : n ≤ 1000000) (hB : B ≤ w.heap.size)
    (h : ∀ v' w', w'.ownsRow B 51 1 v' (n + 1) (us (xs ++ [cy])) → w.grownBy w' v.ownBlock → wpList Try.prog ops Q rest (a.put o.dst v') w') :
    wpList Try.prog ops Q (o :: rest) a w := by
  obtain ⟨i0, hi0, hz0, hz1, hz2⟩ := info_parts u32_info
  have hsl := hr.sl (B := g0 + 1) (n := 1) (c := 1) (by omega) 0 (by simp) (by omega) (by omega) (Ok.cons hcy Ok.nil)
  refine wpList_append_any w hgd s x 22 ho B 51 i0 _ 1 4 Try.underlying22 hi0 hz0 hz1 hz2 rfl (by omega) v n (us xs) hs hown (g0 + 1) (some ⟨g0, 0, none⟩) 1 1 (us [cy]) hx hsl.reads ?_ (by unfold maxLen; omega) (by omega) hB ?_
  · intro u hu
    simp only [us, List.mem_map] at hu
    obtain ⟨y, _, rfl⟩ := hu
    rfl
  · intro v' w' hown' hg _
    rw [show us xs ++ us [cy] = us (xs ++ [cy]) by simp [us]] at hown'
    exact h v' w' hown' hg
theorem nz_of_ge {xs : List Nat} {n : Nat} (hx : Ok xs) (hl : xs.length = n + 1) (h : 4294967296 ^ n ≤ val xs) : Nz xs := by
  have hne : xs ≠ [] := by rintro rfl; simp at hl
  rw [nz_iff hne, hl, Nat.add_sub_cancel]
  intro e
  have a := val_take_succ xs n
  rw [List.take_of_length_le (by omega), e, Nat.mul_zero, Nat.add_zero] at a
  have b := val_lt (hx.take n)
  rw [List.length_take, Nat.min_eq_left (by omega)] at b
  omega
theorem nz_snoc {xs : List Nat} {c : Nat} (h : c ≠ 0) : Nz (xs ++ [c]) := by
  unfold Nz
  rw [List.getLast?_concat]
  simpa using h
theorem canon_all {l : List UInt8} (h : canon l = true) : ∀ x ∈ l, isD x = true := by
  unfold canon at h
  rw [Bool.and_eq_true] at h
  exact List.all_eq_true.1 h.2
theorem own_len {w : World} {B n : Nat} {v : Value} {xs : List Nat} (h : w.ownsRow B 51 1 v n (us xs)) : xs.length = n := by
  have := h.1
  rw [us_length] at this
  omega
theorem head_pos {l : List UInt8} {m : Nat} (h : canon l = true) (h1 : l ≠ [48]) (hm : 1 ≤ m) : 0 < dnum (l.take m) := by
  rcases l with _ | ⟨c, t⟩
  · cases h
  · have hc : c ≠ 48 := by
      rintro rfl
      by_cases ht : t = []
      · exact h1 (by rw [ht])
      · rw [canon_lead ht] at h; cases h
    obtain ⟨j, rfl⟩ : ∃ j, m = j + 1 := ⟨m - 1, by omega⟩
    rw [List.take_succ_cons]
    exact Nat.lt_of_lt_of_le (Nat.pow_pos (by decide)) (dnum_pos (canon_all h c (by simp)) hc)
/-- One group more. -/
theorem group_sum {M N : Nat} {l : List UInt8} {m : Nat} (h : M * 10 ^ l.length + dnum l = N) (hm : m ≤ l.length) : (M * 10 ^ m + dnum (l.take m)) * 10 ^ (l.drop m).length + dnum (l.drop m) = N := by
  have e := dnum_app (l.take m) (l.drop m)
  rw [List.take_append_drop] at e
  rw [← h, e, Nat.add_mul, Nat.mul_assoc, ← Nat.pow_add, List.length_drop, show m + (l.length - m) = l.length by omega]
  omega

set_option maxHeartbeats 2000000 in
theorem parse_form (s d : ByteArray) (neg : Bool) (w : World) (hs : d.size ≤ 140737488351232) (C : ∀ w : World, Calls Try.prog 84 #[.string s, .string ⟨#[45]⟩] w fun e w' => e = .returned (.tuple #[.string d, .bool neg]) ∧ w' = w)
    (hf : canon d.data.toList = false ∨ (canon d.data.toList = true ∧ neg = true ∧ d.data.toList = [48])) : Calls Try.prog 46 #[.string s] w (RetIE 0 3 w) := by
  have Hb := Lib.hid ((Below.refl w.heap.size w).alloc (Nat.le_refl _) (.cells #[.bool false, .slice none 0 0] 24))
  have HC := Lib.hid C
  clear C
  rcases hf with hf | ⟨hf, rfl, hl⟩
  · have HF := Lib.hid hf
    clear hf
    go_enter Try.func46, Try.ntmps46
    go_wp2_with fail
    refine (HC.out _).mono ?_
    rintro e w1 ⟨rfl, rfl⟩
    go_wp2_with fail
    refine (decimal_any _ _ hs).mono ?_
    rintro e w1 ⟨rfl, rfl⟩
    rw [HF.out]
    go_wp2
    exact bodyPost_ret (v := .tuple #[.agg #[.bool false, .slice none 0 0], .int .i64 3]) (by simp [results, Try.results46, go_sem]) rfl
      ⟨none, 0, 0, [], rfl, Sl.nil _ _, Nz.nil, rfl, Hb.out⟩
  · have f1 : (d.toList == [48]) = true := by rw [Lib.toList_data, hl]; decide
    have HF := Lib.hid hf
    clear hf hl
    go_enter Try.func46, Try.ntmps46
    go_wp2_with fail
    refine (HC.out _).mono ?_
    rintro e w1 ⟨rfl, rfl⟩
    go_wp2_with fail
    refine (decimal_any _ _ hs).mono ?_
    rintro e w1 ⟨rfl, rfl⟩
    rw [HF.out]
    go_wp2
    exact bodyPost_ret (v := .tuple #[.agg #[.bool false, .slice none 0 0], .int .i64 3]) (by simp [results, Try.results46, go_sem]) rfl
      ⟨none, 0, 0, [], rfl, Sl.nil _ _, Nz.nil, rfl, Hb.out⟩

set_option maxHeartbeats 2000000 in
theorem parse_zero (s d : ByteArray) (w : World) (hs : d.size ≤ 140737488351232) (C : ∀ w : World, Calls Try.prog 84 #[.string s, .string ⟨#[45]⟩] w fun e w' => e = .returned (.tuple #[.string d, .bool false]) ∧ w' = w)
    (hl : d.data.toList = [48]) : Calls Try.prog 46 #[.string s] w (RetIE 0 0 w) := by
  have Hb := Lib.hid ((Below.refl w.heap.size w).alloc (Nat.le_refl _) (.cells #[.bool false, .slice none 0 0] 24))
  have HC := Lib.hid C
  have f1 : (d.toList == [48]) = true := by rw [Lib.toList_data, hl]; decide
  have HF := Lib.hid (show canon d.data.toList = true by rw [hl]; decide)
  clear C hl
  go_enter Try.func46, Try.ntmps46
  go_wp2_with fail
  refine (HC.out _).mono ?_
  rintro e w1 ⟨rfl, rfl⟩
  go_wp2_with fail
  refine (decimal_any _ _ hs).mono ?_
  rintro e w1 ⟨rfl, rfl⟩
  rw [HF.out]
  go_wp2
  exact bodyPost_ret (v := .tuple #[.agg #[.bool false, .slice none 0 0], .int .i64 0]) (by simp [results, Try.results46, go_sem]) rfl
    ⟨none, 0, 0, [], rfl, Sl.nil _ _, Nz.nil, rfl, Hb.out⟩

set_option maxHeartbeats 2000000 in
theorem parse_num (s d : ByteArray) (neg : Bool) (w : World) (hs : d.size ≤ 140737488351232) (C : ∀ w : World, Calls Try.prog 84 #[.string s, .string ⟨#[45]⟩] w fun e w' => e = .returned (.tuple #[.string d, .bool neg]) ∧ w' = w)
    (hc : canon d.data.toList = true) (hne : d.data.toList ≠ [48]) (N : Nat) (hN : dnum d.data.toList = N) : Calls Try.prog 46 #[.string s] w (RetIE (fitZ (sg neg N)) (fitE (sg neg N)) w) := by
  have HC := Lib.hid C
  have f1 : (d.toList == [48]) = false := by rw [Lib.toList_data, beq_eq_false_iff_ne]; exact hne
  have HF := Lib.hid (And.intro hc (And.intro hne hN))
  clear C hc hne hN
  go_enter Try.func46, Try.ntmps46
  go_wp2_with fail
  refine (HC.out _).mono ?_
  rintro e w1 ⟨rfl, rfl⟩
  go_wp2_with fail
  refine (decimal_any _ _ hs).mono ?_
  rintro e w1 ⟨rfl, rfl⟩
  rw [HF.out.1]
  generalize hW : World.alloc w _ = W
  have HB := Lib.hid (show Below w.heap.size w W ∧ Bx W w.heap.size false none 0 0 from by rw [← hW]; exact ⟨(Below.refl _ _).alloc (Nat.le_refl _) _, Bx.new _ _ _ _ _⟩)
  clear hW
  generalize hr : w.heap.size = r at *
  have HR := Lib.hid hr
  clear hr
  cases neg
  · skip
    go_wp2
    go_loopg [4, 6] d.size (fun gg s4 s6 wr => ∃ (dr : ByteArray) (A : Option Addr) (n c : Nat) (xs : List Nat), s4 = .string dr ∧ s6 = .slice A n c ∧ dr.size = gg ∧ dr.size ≤ 140737488351232 ∧ n ≤ 129 ∧ Hid (Pa w wr r N d.data.toList (.slice A n c) n xs dr.data.toList))
    case atStart => exact ⟨d, none, 0, 0, [], rfl, rfl, rfl, hs, by omega, ⟨HB.out.2, World.ownsRow_nil _ _ _ _, Ok.nil, Nz.nil, by rw [val_nil, Nat.zero_mul, Nat.zero_add]; exact HF.out.2.2, canon_all HF.out.1, .inl ⟨rfl, rfl, rfl, rfl⟩, HB.out.1⟩⟩
    case round =>
      obtain ⟨dr, A, n, c, xs, rfl, rfl, rfl, hds, hn9, HPa⟩ := hrel
      obtain ⟨A9, c9, e9, hsl⟩ := sl_of_own HPa.out.own (by omega) HPa.out.ok
      injection e9 with e9 _ e9c
      subst e9
      subst e9c
      have hl2 : dr.data.toList.length = dr.size := by simp
      have b0 := HPa.out.bx
      have k3 := b0.c0
      have k4 := b0.c1
      have k5 := b0.f 0
      have k6 := b0.f 1
      have lr := b0.lt
      by_cases hd0 : dr.size = 0
      · have HX := Lib.hid (show val xs = N by
          have a := HPa.out.sum
          have e : dr.data.toList = [] := List.eq_nil_of_length_eq_zero (by rw [hl2]; exact hd0)
          rw [e, List.length_nil, Nat.pow_zero, Nat.mul_one, dnum_nil] at a
          exact a)
        clear k3 k4 k5 k6 lr hl2
        go_wp2_with fail
        refine (limited_any false _ _ _ xs _ hsl HPa.out.nz).mono ?_
        rintro e w5 ⟨A5, n5, c5, xs5, rfl, hs5, hx5, hv5, hb5⟩
        have b0 := b0.below hb5 b0.lt
        have k3 := b0.c0
        have k4 := b0.c1
        have k5 := b0.f 0
        have k6 := b0.f 1
        have H5 := Lib.hid (And.intro hx5 hv5)
        have HB5 := Lib.hid (below_chain HPa.out.be (Nat.le_of_lt HPa.out.bx.lt) hb5)
        clear hx5 hv5 hb5
        go_wp2
        refine bodyPost_ret (v := .tuple #[.agg #[.bool (decide (fitZ (sg false (val xs)) < 0)), .slice A5 n5 c5], .int .i64 (fitE (sg false (val xs)))]) (by simp [results, Try.results46, go_sem, k3, k4]) rfl
          ⟨A5, n5, c5, xs5, by rw [HX.out], hs5.ret b0 _ _, H5.out.1, by rw [H5.out.2, HX.out], by rw [HR.out]; exact below_ret HB5.out (Nat.le_refl _) _ _⟩
      · have hd1 : (0 : Int) < (dr.size : Int) := by omega
        by_cases hn : n ≤ 128
        · have i1 : (n : Int) ≤ 128 := by omega
          obtain ⟨m, hm⟩ : ∃ m, (dr.size - 1) % 9 + 1 = m := ⟨_, rfl⟩
          have hm9 : m ≤ 9 ∧ 1 ≤ m ∧ m ≤ dr.size := by omega
          have i2 : ((dr.size : Int) - 1) % 9 + 1 = (m : Int) := by omega
          have HM := Lib.hid (And.intro hm hl2)
          have HG := Lib.hid (group_sum HPa.out.sum (m := m) (by omega))
          have HD := Lib.hid (And.intro (fun x hx => HPa.out.dig x (List.mem_of_mem_take (i := m) hx)) (fun x hx => HPa.out.dig x (List.mem_of_mem_drop (i := m) hx)))
          have et : (dr.extract 0 m).data.toList = dr.data.toList.take m := Lib.Pa.extract_upto_list dr m
          have ed : (dr.extract m dr.size).data.toList = dr.data.toList.drop m := Lib.extract_to_end dr m
          have es : (dr.extract 0 m).size = m := by simp; omega
          have es2 : (dr.extract m dr.size).size = dr.size - m := by simp
          have HE := Lib.hid (And.intro et (And.intro ed (And.intro es es2)))
          have K := smallNumber_any (dr.extract 0 m) wr (by omega) (by rw [et]; exact HD.out.1)
          rw [et] at K
          have HS9 := Lib.hid (show dnum (dr.data.toList.take m) < 1000000000 by
            have a := dnum_lt HD.out.1
            have b : (10 : Nat) ^ (dr.data.toList.take m).length ≤ 10 ^ 9 := Nat.pow_le_pow_right (by decide) (by rw [List.length_take]; omega)
            exact Nat.lt_of_lt_of_le a b)
          have HK := Lib.hid K
          clear et ed es es2 K hl2
          have hmi : (m : Int) ≤ (dr.size : Int) := by omega
          go_wp2_with fail
          refine HK.out.mono ?_
          rintro e w2 ⟨rfl, rfl⟩
          generalize hsm : dnum (dr.data.toList.take m) = sm at *
          rcases HPa.out.st with ⟨hl, hv, rfl, rfl⟩ | ⟨hM, h9⟩
          · injection hv with hv1 _ hv3
            subst hv1
            subst hv3
            have hsm0 : 0 < sm := by rw [← hsm, hl]; exact head_pos HF.out.1 HF.out.2.1 hm9.2.1
            have t1 : (0 : Int) < (sm : Int) := by omega
            have hsm9 : sm < 4294967296 := by have := HS9.out; omega
            have hrow : Row (wr.alloc (.cells #[.int .u32 (sm : Int)] 51)) wr.heap.size [sm] := Blk.new wr _ _
            have Hown := Lib.hid (HPa.out.own.alloc (.cells #[.int .u32 (sm : Int)] 51))
            have Hrow := Lib.hid hrow
            clear hrow hl hsm
            go_wp2_with fail
            refine (scale_nil 1000000000 sm _ hsm9).mono ?_
            rintro e w2 ⟨rfl, rfl⟩
            go_wp2_with (with_reducible refine app_one rfl (.tmp 48) (.tmp 50) rfl (r + 1) 0 wr.heap.size sm (.slice none 0 0) [] rfl Hown.out rfl Hrow.out hsm9 (by omega) (by simp; omega) ?_; intro v' w' ho hg)
            have HN9 := Lib.hid (show Pa w w' r N d.data.toList v' (0 + 1) ([] ++ [sm]) (dr.extract m dr.size).data.toList from by
              refine ⟨Blk.grown (HPa.out.bx.alloc _) hg (by simp [Value.ownBlock]), ho, Ok.cons hsm9 Ok.nil, nz_snoc (by omega), ?_, by rw [HE.out.2.1]; exact HD.out.2, .inr ⟨by simp [val]; exact hsm0, ?_⟩, (HPa.out.be.alloc (Nat.le_of_lt HPa.out.bx.lt) _).grown hg (by have := HPa.out.bx.lt; simp; omega) (fun k hk => by cases hk)⟩
              · rw [HE.out.2.1]
                have a := HG.out
                rw [val_nil, Nat.zero_mul, Nat.zero_add] at a
                rw [List.nil_append, val_cons, val_nil, Nat.mul_zero, Nat.add_zero]
                exact a
              · rw [HE.out.2.1, List.length_drop, HM.out.2]
                have := HM.out.1
                omega)
            have H2 := Lib.hid HE.out.2.2.2
            obtain ⟨A7, c7, rfl, -⟩ := sl_of_own HN9.out.own (by omega) HN9.out.ok
            clear ho hg k3 k4 k5 k6 lr
            go_wp2
            go_roundg (dr.size - m)
            case measure => omega
            case rel => exact ⟨dr.extract m dr.size, A7, 0 + 1, c7, [] ++ [sm], rfl, rfl, H2.out, by have := H2.out; omega, by omega, HN9.out⟩
          · have hn0 : 0 < n := by
              rcases Nat.eq_zero_or_pos n with e | e
              · have := own_len HPa.out.own
                rw [e] at this
                rw [List.eq_nil_of_length_eq_zero this] at hM
                simp [val] at hM
              · exact e
            obtain ⟨g, rfl, hgr⟩ : ∃ g, A = some ⟨g, 0, none⟩ ∧ r + 1 ≤ g := by
              rcases HPa.out.own.2 with ⟨_, e⟩ | ⟨g, cap, cur, e, hb, _⟩
              · omega
              · injection e with e _ _
                exact ⟨g, e, hb⟩
            have hm99 : m = 9 := by
              rw [HM.out.2] at h9
              have := HM.out.1
              omega
            have HSM := Lib.hid (And.intro hsm (And.intro hM (And.intro h9 hm99)))
            have hsm9 : sm < 4294967296 := by have := HS9.out; omega
            clear hsm hM h9 hm99
            go_wp2_with fail
            refine (scale_own (r + 1) g n c 1000000000 sm xs _ HPa.out.own HPa.out.ok (by omega) hsm9 (by omega)).mono ?_
            rintro e w2 ⟨xs2, cy, rfl, ho2, hk2, hv2, hcy, hg2⟩
            have HV2 := Lib.hid (show val xs2 + 4294967296 ^ n * cy = val xs * 10 ^ m + sm from by rw [hv2, HSM.out.2.2.2])
            have HB2 := Lib.hid (And.intro (Blk.grown HPa.out.bx hg2 (by simp; omega)) (HPa.out.be.grown hg2 (Nat.le_of_lt HPa.out.bx.lt) (fun k hk => by injection hk with hk; omega)))
            have HO2 := Lib.hid (And.intro ho2 hk2)
            have HST := Lib.hid (show (dr.extract m dr.size).data.toList.length % 9 = 0 from by
              rw [HE.out.2.1, List.length_drop, HM.out.2]
              have := HM.out.1
              have := HSM.out.2.2.1
              rw [HM.out.2] at this
              omega)
            have H2 := Lib.hid HE.out.2.2.2
            clear hv2 ho2 hk2 hg2 k3 k4 k5 k6 lr
            by_cases hcy0 : cy = 0
            · subst hcy0
              have HN9 := Lib.hid (show Pa w w2 r N d.data.toList (.slice (some ⟨g, 0, none⟩) n c) n xs2 (dr.extract m dr.size).data.toList from by
                have a := HV2.out
                rw [Nat.mul_zero, Nat.add_zero] at a
                have hge : val xs * 1 ≤ val xs * 10 ^ m := Nat.mul_le_mul_left _ (Nat.pow_pos (by decide))
                have hxp := HSM.out.2.1
                refine ⟨HB2.out.1, HO2.out.1, HO2.out.2, nz_of_ge (n := n - 1) HO2.out.2 (by rw [own_len HO2.out.1]; omega) ?_, ?_, by rw [HE.out.2.1]; exact HD.out.2, .inr ⟨by omega, HST.out⟩, HB2.out.2⟩
                · have := val_ge HPa.out.nz (by rintro rfl; simp [val] at hxp)
                  rw [own_len HPa.out.own] at this
                  omega
                · rw [HE.out.2.1, a]
                  exact HG.out)
              go_wp2
              go_roundg (dr.size - m)
              case measure => omega
              case rel => exact ⟨dr.extract m dr.size, some ⟨g, 0, none⟩, n, c, xs2, rfl, rfl, H2.out, by have := H2.out; omega, by omega, HN9.out⟩
            · have t1 : (0 : Int) < (cy : Int) := by omega
              have hrow : Row (w2.alloc (.cells #[.int .u32 (cy : Int)] 51)) w2.heap.size [cy] := Blk.new w2 _ _
              have Hown := Lib.hid (HO2.out.1.alloc (.cells #[.int .u32 (cy : Int)] 51))
              have Hrow := Lib.hid hrow
              clear hrow
              have hw2 : r + 1 ≤ w2.heap.size := by have := HB2.out.1.lt; omega
              go_wp2_with (with_reducible refine app_one rfl (.tmp 48) (.tmp 50) rfl (r + 1) n w2.heap.size cy (.slice (some ⟨g, 0, none⟩) n c) xs2 rfl Hown.out rfl Hrow.out hcy (by omega) (by simp; omega) ?_; intro v' w' ho hg)
              have HN9 := Lib.hid (show Pa w w' r N d.data.toList v' (n + 1) (xs2 ++ [cy]) (dr.extract m dr.size).data.toList from by
                have a := HV2.out
                have hxp := HSM.out.2.1
                have hge : val xs * 1 ≤ val xs * 10 ^ m := Nat.mul_le_mul_left _ (Nat.pow_pos (by decide))
                have ev : val (xs2 ++ [cy]) = val xs * 10 ^ m + sm := by rw [val_snoc, own_len HO2.out.1]; exact a
                refine ⟨Blk.grown (HB2.out.1.alloc _) hg (by simp [Value.ownBlock]; omega), ho, HO2.out.2.app (Ok.cons hcy Ok.nil), nz_snoc hcy0, ?_, by rw [HE.out.2.1]; exact HD.out.2, .inr ⟨by rw [ev]; omega, HST.out⟩, (HB2.out.2.alloc (Nat.le_of_lt HB2.out.1.lt) _).grown hg (by simp; omega) (fun k hk => by simp [Value.ownBlock] at hk; omega)⟩
                rw [HE.out.2.1, ev]
                exact HG.out)
              obtain ⟨A7, c7, rfl, -⟩ := sl_of_own HN9.out.own (by omega) HN9.out.ok
              clear ho hg
              go_wp2
              go_roundg (dr.size - m)
              case measure => omega
              case rel => exact ⟨dr.extract m dr.size, A7, n + 1, c7, xs2 ++ [cy], rfl, rfl, H2.out, by have := H2.out; omega, by omega, HN9.out⟩
        · have i1 : (128 : Int) < (n : Int) := by omega
          have HBG := Lib.hid (show BIG ≤ N by
            have a := val_ge HPa.out.nz (by rintro rfl; have := own_len HPa.out.own; simp at this; omega)
            rw [own_len HPa.out.own] at a
            have b : (4294967296 : Nat) ^ 128 ≤ 4294967296 ^ (n - 1) := Nat.pow_le_pow_right (by decide) (by omega)
            have c := HPa.out.sum
            have d : val xs * 1 ≤ val xs * 10 ^ dr.data.toList.length := Nat.mul_le_mul_left _ (Nat.pow_pos (by decide))
            have e : BIG = 4294967296 ^ 128 := rfl
            rw [e]
            generalize (4294967296 : Nat) ^ 128 = P at *
            omega)
          have hf := fit_no (z := sg false N) (by rw [sg_abs]; exact Nat.not_lt.2 HBG.out)
          rw [hf.1, hf.2]
          clear hf
          go_wp2
          exact bodyPost_ret (v := .tuple #[.agg #[.bool false, .slice none 0 0], .int .i64 2]) (by simp [results, Try.results46, go_sem, k3, k4]) rfl
            ⟨none, 0, 0, [], rfl, Sl.nil _ _, Nz.nil, rfl, by rw [HR.out]; exact below_ret HPa.out.be (Nat.le_refl _) _ _⟩
  · skip
    go_wp2
    go_loopg [4, 6] d.size (fun gg s4 s6 wr => ∃ (dr : ByteArray) (A : Option Addr) (n c : Nat) (xs : List Nat), s4 = .string dr ∧ s6 = .slice A n c ∧ dr.size = gg ∧ dr.size ≤ 140737488351232 ∧ n ≤ 129 ∧ Hid (Pa w wr r N d.data.toList (.slice A n c) n xs dr.data.toList))
    case atStart => exact ⟨d, none, 0, 0, [], rfl, rfl, rfl, hs, by omega, ⟨HB.out.2, World.ownsRow_nil _ _ _ _, Ok.nil, Nz.nil, by rw [val_nil, Nat.zero_mul, Nat.zero_add]; exact HF.out.2.2, canon_all HF.out.1, .inl ⟨rfl, rfl, rfl, rfl⟩, HB.out.1⟩⟩
    case round =>
      obtain ⟨dr, A, n, c, xs, rfl, rfl, rfl, hds, hn9, HPa⟩ := hrel
      obtain ⟨A9, c9, e9, hsl⟩ := sl_of_own HPa.out.own (by omega) HPa.out.ok
      injection e9 with e9 _ e9c
      subst e9
      subst e9c
      have hl2 : dr.data.toList.length = dr.size := by simp
      have b0 := HPa.out.bx
      have k3 := b0.c0
      have k4 := b0.c1
      have k5 := b0.f 0
      have k6 := b0.f 1
      have lr := b0.lt
      by_cases hd0 : dr.size = 0
      · have HX := Lib.hid (show val xs = N by
          have a := HPa.out.sum
          have e : dr.data.toList = [] := List.eq_nil_of_length_eq_zero (by rw [hl2]; exact hd0)
          rw [e, List.length_nil, Nat.pow_zero, Nat.mul_one, dnum_nil] at a
          exact a)
        clear k3 k4 k5 k6 lr hl2
        go_wp2_with fail
        refine (limited_any true _ _ _ xs _ hsl HPa.out.nz).mono ?_
        rintro e w5 ⟨A5, n5, c5, xs5, rfl, hs5, hx5, hv5, hb5⟩
        have b0 := b0.below hb5 b0.lt
        have k3 := b0.c0
        have k4 := b0.c1
        have k5 := b0.f 0
        have k6 := b0.f 1
        have H5 := Lib.hid (And.intro hx5 hv5)
        have HB5 := Lib.hid (below_chain HPa.out.be (Nat.le_of_lt HPa.out.bx.lt) hb5)
        clear hx5 hv5 hb5
        go_wp2
        refine bodyPost_ret (v := .tuple #[.agg #[.bool (decide (fitZ (sg true (val xs)) < 0)), .slice A5 n5 c5], .int .i64 (fitE (sg true (val xs)))]) (by simp [results, Try.results46, go_sem, k3, k4]) rfl
          ⟨A5, n5, c5, xs5, by rw [HX.out], hs5.ret b0 _ _, H5.out.1, by rw [H5.out.2, HX.out], by rw [HR.out]; exact below_ret HB5.out (Nat.le_refl _) _ _⟩
      · have hd1 : (0 : Int) < (dr.size : Int) := by omega
        by_cases hn : n ≤ 128
        · have i1 : (n : Int) ≤ 128 := by omega
          obtain ⟨m, hm⟩ : ∃ m, (dr.size - 1) % 9 + 1 = m := ⟨_, rfl⟩
          have hm9 : m ≤ 9 ∧ 1 ≤ m ∧ m ≤ dr.size := by omega
          have i2 : ((dr.size : Int) - 1) % 9 + 1 = (m : Int) := by omega
          have HM := Lib.hid (And.intro hm hl2)
          have HG := Lib.hid (group_sum HPa.out.sum (m := m) (by omega))
          have HD := Lib.hid (And.intro (fun x hx => HPa.out.dig x (List.mem_of_mem_take (i := m) hx)) (fun x hx => HPa.out.dig x (List.mem_of_mem_drop (i := m) hx)))
          have et : (dr.extract 0 m).data.toList = dr.data.toList.take m := Lib.Pa.extract_upto_list dr m
          have ed : (dr.extract m dr.size).data.toList = dr.data.toList.drop m := Lib.extract_to_end dr m
          have es : (dr.extract 0 m).size = m := by simp; omega
          have es2 : (dr.extract m dr.size).size = dr.size - m := by simp
          have HE := Lib.hid (And.intro et (And.intro ed (And.intro es es2)))
          have K := smallNumber_any (dr.extract 0 m) wr (by omega) (by rw [et]; exact HD.out.1)
          rw [et] at K
          have HS9 := Lib.hid (show dnum (dr.data.toList.take m) < 1000000000 by
            have a := dnum_lt HD.out.1
            have b : (10 : Nat) ^ (dr.data.toList.take m).length ≤ 10 ^ 9 := Nat.pow_le_pow_right (by decide) (by rw [List.length_take]; omega)
            exact Nat.lt_of_lt_of_le a b)
          have HK := Lib.hid K
          clear et ed es es2 K hl2
          have hmi : (m : Int) ≤ (dr.size : Int) := by omega
          go_wp2_with fail
          refine HK.out.mono ?_
          rintro e w2 ⟨rfl, rfl⟩
          generalize hsm : dnum (dr.data.toList.take m) = sm at *
          rcases HPa.out.st with ⟨hl, hv, rfl, rfl⟩ | ⟨hM, h9⟩
          · injection hv with hv1 _ hv3
            subst hv1
            subst hv3
            have hsm0 : 0 < sm := by rw [← hsm, hl]; exact head_pos HF.out.1 HF.out.2.1 hm9.2.1
            have t1 : (0 : Int) < (sm : Int) := by omega
            have hsm9 : sm < 4294967296 := by have := HS9.out; omega
            have hrow : Row (wr.alloc (.cells #[.int .u32 (sm : Int)] 51)) wr.heap.size [sm] := Blk.new wr _ _
            have Hown := Lib.hid (HPa.out.own.alloc (.cells #[.int .u32 (sm : Int)] 51))
            have Hrow := Lib.hid hrow
            clear hrow hl hsm
            go_wp2_with fail
            refine (scale_nil 1000000000 sm _ hsm9).mono ?_
            rintro e w2 ⟨rfl, rfl⟩
            go_wp2_with (with_reducible refine app_one rfl (.tmp 48) (.tmp 50) rfl (r + 1) 0 wr.heap.size sm (.slice none 0 0) [] rfl Hown.out rfl Hrow.out hsm9 (by omega) (by simp; omega) ?_; intro v' w' ho hg)
            have HN9 := Lib.hid (show Pa w w' r N d.data.toList v' (0 + 1) ([] ++ [sm]) (dr.extract m dr.size).data.toList from by
              refine ⟨Blk.grown (HPa.out.bx.alloc _) hg (by simp [Value.ownBlock]), ho, Ok.cons hsm9 Ok.nil, nz_snoc (by omega), ?_, by rw [HE.out.2.1]; exact HD.out.2, .inr ⟨by simp [val]; exact hsm0, ?_⟩, (HPa.out.be.alloc (Nat.le_of_lt HPa.out.bx.lt) _).grown hg (by have := HPa.out.bx.lt; simp; omega) (fun k hk => by cases hk)⟩
              · rw [HE.out.2.1]
                have a := HG.out
                rw [val_nil, Nat.zero_mul, Nat.zero_add] at a
                rw [List.nil_append, val_cons, val_nil, Nat.mul_zero, Nat.add_zero]
                exact a
              · rw [HE.out.2.1, List.length_drop, HM.out.2]
                have := HM.out.1
                omega)
            have H2 := Lib.hid HE.out.2.2.2
            obtain ⟨A7, c7, rfl, -⟩ := sl_of_own HN9.out.own (by omega) HN9.out.ok
            clear ho hg k3 k4 k5 k6 lr
            go_wp2
            go_roundg (dr.size - m)
            case measure => omega
            case rel => exact ⟨dr.extract m dr.size, A7, 0 + 1, c7, [] ++ [sm], rfl, rfl, H2.out, by have := H2.out; omega, by omega, HN9.out⟩
          · have hn0 : 0 < n := by
              rcases Nat.eq_zero_or_pos n with e | e
              · have := own_len HPa.out.own
                rw [e] at this
                rw [List.eq_nil_of_length_eq_zero this] at hM
                simp [val] at hM
              · exact e
            obtain ⟨g, rfl, hgr⟩ : ∃ g, A = some ⟨g, 0, none⟩ ∧ r + 1 ≤ g := by
              rcases HPa.out.own.2 with ⟨_, e⟩ | ⟨g, cap, cur, e, hb, _⟩
              · omega
              · injection e with e _ _
                exact ⟨g, e, hb⟩
            have hm99 : m = 9 := by
              rw [HM.out.2] at h9
              have := HM.out.1
              omega
            have HSM := Lib.hid (And.intro hsm (And.intro hM (And.intro h9 hm99)))
            have hsm9 : sm < 4294967296 := by have := HS9.out; omega
            clear hsm hM h9 hm99
            go_wp2_with fail
            refine (scale_own (r + 1) g n c 1000000000 sm xs _ HPa.out.own HPa.out.ok (by omega) hsm9 (by omega)).mono ?_
            rintro e w2 ⟨xs2, cy, rfl, ho2, hk2, hv2, hcy, hg2⟩
            have HV2 := Lib.hid (show val xs2 + 4294967296 ^ n * cy = val xs * 10 ^ m + sm from by rw [hv2, HSM.out.2.2.2])
            have HB2 := Lib.hid (And.intro (Blk.grown HPa.out.bx hg2 (by simp; omega)) (HPa.out.be.grown hg2 (Nat.le_of_lt HPa.out.bx.lt) (fun k hk => by injection hk with hk; omega)))
            have HO2 := Lib.hid (And.intro ho2 hk2)
            have HST := Lib.hid (show (dr.extract m dr.size).data.toList.length % 9 = 0 from by
              rw [HE.out.2.1, List.length_drop, HM.out.2]
              have := HM.out.1
              have := HSM.out.2.2.1
              rw [HM.out.2] at this
              omega)
            have H2 := Lib.hid HE.out.2.2.2
            clear hv2 ho2 hk2 hg2 k3 k4 k5 k6 lr
            by_cases hcy0 : cy = 0
            · subst hcy0
              have HN9 := Lib.hid (show Pa w w2 r N d.data.toList (.slice (some ⟨g, 0, none⟩) n c) n xs2 (dr.extract m dr.size).data.toList from by
                have a := HV2.out
                rw [Nat.mul_zero, Nat.add_zero] at a
                have hge : val xs * 1 ≤ val xs * 10 ^ m := Nat.mul_le_mul_left _ (Nat.pow_pos (by decide))
                have hxp := HSM.out.2.1
                refine ⟨HB2.out.1, HO2.out.1, HO2.out.2, nz_of_ge (n := n - 1) HO2.out.2 (by rw [own_len HO2.out.1]; omega) ?_, ?_, by rw [HE.out.2.1]; exact HD.out.2, .inr ⟨by omega, HST.out⟩, HB2.out.2⟩
                · have := val_ge HPa.out.nz (by rintro rfl; simp [val] at hxp)
                  rw [own_len HPa.out.own] at this
                  omega
                · rw [HE.out.2.1, a]
                  exact HG.out)
              go_wp2
              go_roundg (dr.size - m)
              case measure => omega
              case rel => exact ⟨dr.extract m dr.size, some ⟨g, 0, none⟩, n, c, xs2, rfl, rfl, H2.out, by have := H2.out; omega, by omega, HN9.out⟩
            · have t1 : (0 : Int) < (cy : Int) := by omega
              have hrow : Row (w2.alloc (.cells #[.int .u32 (cy : Int)] 51)) w2.heap.size [cy] := Blk.new w2 _ _
              have Hown := Lib.hid (HO2.out.1.alloc (.cells #[.int .u32 (cy : Int)] 51))
              have Hrow := Lib.hid hrow
              clear hrow
              have hw2 : r + 1 ≤ w2.heap.size := by have := HB2.out.1.lt; omega
              go_wp2_with (with_reducible refine app_one rfl (.tmp 48) (.tmp 50) rfl (r + 1) n w2.heap.size cy (.slice (some ⟨g, 0, none⟩) n c) xs2 rfl Hown.out rfl Hrow.out hcy (by omega) (by simp; omega) ?_; intro v' w' ho hg)
              have HN9 := Lib.hid (show Pa w w' r N d.data.toList v' (n + 1) (xs2 ++ [cy]) (dr.extract m dr.size).data.toList from by
                have a := HV2.out
                have hxp := HSM.out.2.1
                have hge : val xs * 1 ≤ val xs * 10 ^ m := Nat.mul_le_mul_left _ (Nat.pow_pos (by decide))
                have ev : val (xs2 ++ [cy]) = val xs * 10 ^ m + sm := by rw [val_snoc, own_len HO2.out.1]; exact a
                refine ⟨Blk.grown (HB2.out.1.alloc _) hg (by simp [Value.ownBlock]; omega), ho, HO2.out.2.app (Ok.cons hcy Ok.nil), nz_snoc hcy0, ?_, by rw [HE.out.2.1]; exact HD.out.2, .inr ⟨by rw [ev]; omega, HST.out⟩, (HB2.out.2.alloc (Nat.le_of_lt HB2.out.1.lt) _).grown hg (by simp; omega) (fun k hk => by simp [Value.ownBlock] at hk; omega)⟩
                rw [HE.out.2.1, ev]
                exact HG.out)
              obtain ⟨A7, c7, rfl, -⟩ := sl_of_own HN9.out.own (by omega) HN9.out.ok
              clear ho hg
              go_wp2
              go_roundg (dr.size - m)
              case measure => omega
              case rel => exact ⟨dr.extract m dr.size, A7, n + 1, c7, xs2 ++ [cy], rfl, rfl, H2.out, by have := H2.out; omega, by omega, HN9.out⟩
        · have i1 : (128 : Int) < (n : Int) := by omega
          have HBG := Lib.hid (show BIG ≤ N by
            have a := val_ge HPa.out.nz (by rintro rfl; have := own_len HPa.out.own; simp at this; omega)
            rw [own_len HPa.out.own] at a
            have b : (4294967296 : Nat) ^ 128 ≤ 4294967296 ^ (n - 1) := Nat.pow_le_pow_right (by decide) (by omega)
            have c := HPa.out.sum
            have d : val xs * 1 ≤ val xs * 10 ^ dr.data.toList.length := Nat.mul_le_mul_left _ (Nat.pow_pos (by decide))
            have e : BIG = 4294967296 ^ 128 := rfl
            rw [e]
            generalize (4294967296 : Nat) ^ 128 = P at *
            omega)
          have hf := fit_no (z := sg true N) (by rw [sg_abs]; exact Nat.not_lt.2 HBG.out)
          rw [hf.1, hf.2]
          clear hf
          go_wp2
          exact bodyPost_ret (v := .tuple #[.agg #[.bool false, .slice none 0 0], .int .i64 2]) (by simp [results, Try.results46, go_sem, k3, k4]) rfl
            ⟨none, 0, 0, [], rfl, Sl.nil _ _, Nz.nil, rfl, by rw [HR.out]; exact below_ret HPa.out.be (Nat.le_refl _) _ _⟩

end Go.Proofs.Ytalgcppogjpilaa
