/-
  Stage 3: attempt: the deferred closure, and attempt itself where it returns a polynomial, a number, a division or a string. Stage 3: attempt where it returns a number, a division or a string.
-/
import Derived.Defers
import Derived.Recover
import Derived.Test.YtjbnclfbkccieaaGreatDoorUniC
namespace Go.Proofs.YtjbnclfbkccieaaGreatDoor
open Go.RowKit
theorem assert_ab (er : Int) (w : World) : (Instr.typeAssert (.iface 109 (.agg #[.int .i64 er])) 20 109 true).run Tryz.prog w = .ok (.tuple #[.agg #[.int .i64 er], .bool true]) w := by kernel_rfl
set_option linter.unusedSimpArgs false in
set_option maxRecDepth 20000 in
theorem catchP_idle (p : Addr) (w : World) : CallsD Tryz.prog 121 #[.pointer (some p)] .returning w fun e u' w' => e = .returned (.tuple #[]) ∧ u' = .returning ∧ w' = w := by
  refine callsD_of_wpS Tryz.func121 rfl fun c₀ cs hu => ?_
  apply wpS_seq
  apply wpS_region
  simp [wpOpsS, go_sem, recoverD, hu, Tryz.ntmps121, Exit.thenS]
  refine wpS_of_wp ?_
  go_wp2
  cases c₀
  simp_all [bodyPostS, results, Tryz.results121]
set_option linter.unusedSimpArgs false in
set_option maxRecDepth 20000 in
theorem catchP_some (b : Nat) (x er : Int) (older : List PanicEntry) (w : World) (hb : Blk w b 38 #[.int .i64 x]) :
    CallsD Tryz.prog 121 #[.pointer (some ⟨b, 0, none⟩)] (.panicking ({ v := .iface 109 (.agg #[.int .i64 er]), recovered := false } :: older)) w fun e u' w' => e = .returned (.tuple #[]) ∧ u' = .panicking ({ v := .iface 109 (.agg #[.int .i64 er]), recovered := true } :: older) ∧ w' = (w.alloc (.cells #[.int .i64 er] 109)).setCell ⟨b, 0, none⟩ (.int .i64 er) := by
  have k0 := Blk.cell (Blk.alloc hb (.cells #[.int .i64 er] 109)) 0
  have k1 := Blk.frozen (Blk.alloc hb (.cells #[.int .i64 er] 109)) 0
  simp only [List.getElem?_toArray, List.getElem?_cons_zero] at k0
  have hta := assert_ab er
  clear hb
  refine callsD_of_wpS Tryz.func121 rfl fun c₀ cs hu => ?_
  apply wpS_seq
  apply wpS_region
  simp [wpOpsS, go_sem, recoverD, hu, Tryz.ntmps121, Exit.thenS]
  refine wpS_of_wp ?_
  generalize hT : (HAppend.hAppend _ _ : Array Value) = T
  obtain rfl : T = #[.pointer (some ⟨b, 0, none⟩), undef, undef, undef, .iface 109 (.agg #[.int .i64 er]), undef, undef, undef, undef, undef, undef, undef] := by rw [← hT]; rfl
  clear hT
  go_wp2
  cases c₀
  simp_all [bodyPostS, results, Tryz.results121]
set_option linter.unusedSimpArgs false in
set_option maxRecDepth 20000 in
theorem catchW_idle (p : Addr) (w : World) : CallsD Tryz.prog 128 #[.pointer (some p)] .returning w fun e u' w' => e = .returned (.tuple #[]) ∧ u' = .returning ∧ w' = w := by
  refine callsD_of_wpS Tryz.func128 rfl fun c₀ cs hu => ?_
  apply wpS_seq
  apply wpS_region
  simp [wpOpsS, go_sem, recoverD, hu, Tryz.ntmps128, Exit.thenS]
  refine wpS_of_wp ?_
  go_wp2
  cases c₀
  simp_all [bodyPostS, results, Tryz.results128]
set_option linter.unusedSimpArgs false in
set_option maxRecDepth 20000 in
theorem catchW_some (b : Nat) (x er : Int) (older : List PanicEntry) (w : World) (hb : Blk w b 38 #[.int .i64 x]) :
    CallsD Tryz.prog 128 #[.pointer (some ⟨b, 0, none⟩)] (.panicking ({ v := .iface 109 (.agg #[.int .i64 er]), recovered := false } :: older)) w fun e u' w' => e = .returned (.tuple #[]) ∧ u' = .panicking ({ v := .iface 109 (.agg #[.int .i64 er]), recovered := true } :: older) ∧ w' = (w.alloc (.cells #[.int .i64 er] 109)).setCell ⟨b, 0, none⟩ (.int .i64 er) := by
  have k0 := Blk.cell (Blk.alloc hb (.cells #[.int .i64 er] 109)) 0
  have k1 := Blk.frozen (Blk.alloc hb (.cells #[.int .i64 er] 109)) 0
  simp only [List.getElem?_toArray, List.getElem?_cons_zero] at k0
  have hta := assert_ab er
  clear hb
  refine callsD_of_wpS Tryz.func128 rfl fun c₀ cs hu => ?_
  apply wpS_seq
  apply wpS_region
  simp [wpOpsS, go_sem, recoverD, hu, Tryz.ntmps128, Exit.thenS]
  refine wpS_of_wp ?_
  generalize hT : (HAppend.hAppend _ _ : Array Value) = T
  obtain rfl : T = #[.pointer (some ⟨b, 0, none⟩), undef, undef, undef, .iface 109 (.agg #[.int .i64 er]), undef, undef, undef, undef, undef, undef, undef] := by rw [← hT]; rfl
  clear hT
  go_wp2
  cases c₀
  simp_all [bodyPostS, results, Tryz.results128]
set_option linter.unusedSimpArgs false in
set_option maxRecDepth 20000 in
theorem catchD_idle (p : Addr) (w : World) : CallsD Tryz.prog 130 #[.pointer (some p)] .returning w fun e u' w' => e = .returned (.tuple #[]) ∧ u' = .returning ∧ w' = w := by
  refine callsD_of_wpS Tryz.func130 rfl fun c₀ cs hu => ?_
  apply wpS_seq
  apply wpS_region
  simp [wpOpsS, go_sem, recoverD, hu, Tryz.ntmps130, Exit.thenS]
  refine wpS_of_wp ?_
  go_wp2
  cases c₀
  simp_all [bodyPostS, results, Tryz.results130]
set_option linter.unusedSimpArgs false in
set_option maxRecDepth 20000 in
theorem catchD_some (b : Nat) (x er : Int) (older : List PanicEntry) (w : World) (hb : Blk w b 38 #[.int .i64 x]) :
    CallsD Tryz.prog 130 #[.pointer (some ⟨b, 0, none⟩)] (.panicking ({ v := .iface 109 (.agg #[.int .i64 er]), recovered := false } :: older)) w fun e u' w' => e = .returned (.tuple #[]) ∧ u' = .panicking ({ v := .iface 109 (.agg #[.int .i64 er]), recovered := true } :: older) ∧ w' = (w.alloc (.cells #[.int .i64 er] 109)).setCell ⟨b, 0, none⟩ (.int .i64 er) := by
  have k0 := Blk.cell (Blk.alloc hb (.cells #[.int .i64 er] 109)) 0
  have k1 := Blk.frozen (Blk.alloc hb (.cells #[.int .i64 er] 109)) 0
  simp only [List.getElem?_toArray, List.getElem?_cons_zero] at k0
  have hta := assert_ab er
  clear hb
  refine callsD_of_wpS Tryz.func130 rfl fun c₀ cs hu => ?_
  apply wpS_seq
  apply wpS_region
  simp [wpOpsS, go_sem, recoverD, hu, Tryz.ntmps130, Exit.thenS]
  refine wpS_of_wp ?_
  generalize hT : (HAppend.hAppend _ _ : Array Value) = T
  obtain rfl : T = #[.pointer (some ⟨b, 0, none⟩), undef, undef, undef, .iface 109 (.agg #[.int .i64 er]), undef, undef, undef, undef, undef, undef, undef] := by rw [← hT]; rfl
  clear hT
  go_wp2
  cases c₀
  simp_all [bodyPostS, results, Tryz.results130]
set_option linter.unusedSimpArgs false in
set_option maxRecDepth 20000 in
theorem catchT_idle (p : Addr) (w : World) : CallsD Tryz.prog 143 #[.pointer (some p)] .returning w fun e u' w' => e = .returned (.tuple #[]) ∧ u' = .returning ∧ w' = w := by
  refine callsD_of_wpS Tryz.func143 rfl fun c₀ cs hu => ?_
  apply wpS_seq
  apply wpS_region
  simp [wpOpsS, go_sem, recoverD, hu, Tryz.ntmps143, Exit.thenS]
  refine wpS_of_wp ?_
  go_wp2
  cases c₀
  simp_all [bodyPostS, results, Tryz.results143]
/-- The polynomials that attempt is to check, and what Check says of each. -/
def Polys (w : World) (g np : Nat) (ev : Nat → Int) : Prop := ∃ cs : Array Value, Blk w g 22 cs ∧ cs.size = np ∧ ∀ k, k < np → ∃ (A : Option Addr) (n c : Nat) (L : List RVal), cs[k]? = some (.slice A n c) ∧ PSl w A n c L ∧ n ≤ 100000 ∧ chkE L = ev k
theorem Polys.on {w w' : World} {g np : Nat} {ev : Nat → Int} (h : Polys w g np ev) (hb : Below w.heap.size w w') : Polys w' g np ev := by
  obtain ⟨cs, h1, h2, h3⟩ := h
  refine ⟨cs, Blk.below h1 hb (Blk.lt h1), h2, fun k hk => ?_⟩
  obtain ⟨A, n, c, L, e1, e2, e3, e4⟩ := h3 k hk
  exact ⟨A, n, c, L, e1, e2.on hb, e3, e4⟩
theorem Polys.at_ {w : World} {g np : Nat} {ev : Nat → Int} (h : Polys w g np ev) {k : Nat} (hk : k < np) : ∃ (A : Option Addr) (n c : Nat) (L : List RVal), w.cell? ⟨g, k, none⟩ = some (.slice A n c) ∧ PSl w A n c L ∧ n ≤ 100000 ∧ chkE L = ev k := by
  obtain ⟨cs, h1, h2, h3⟩ := h
  obtain ⟨A, n, c, L, e1, e2, e3, e4⟩ := h3 k hk
  exact ⟨A, n, c, L, by rw [Blk.cell h1 k]; exact e1, e2, e3, e4⟩
theorem noU1 (x : Int) : NoU #[.int .i64 x] := by
  intro i v hv x e
  subst e
  rw [List.getElem?_toArray] at hv
  have := List.mem_of_getElem? hv
  simp at this
/-- What attempt hands back beside a polynomial. -/
def AttP (r : Except Int (List Rat)) (w : World) (e : Ending) (w' : World) : Prop := match r with
  | .ok l => ∃ (A : Option Addr) (n c : Nat) (L : List RVal), e = .returned (.tuple #[.slice A n c, .int .i64 0]) ∧ PSl w' A n c L ∧ Vs L l ∧ (∀ ad, A = some ad → w.heap.size ≤ ad.block) ∧ Below w.heap.size w w'
  | .error er => e = .returned (.tuple #[.slice none 0 0, .int .i64 er]) ∧ Below w.heap.size w w'
def AtR (w : World) (g np : Nat) (ev : Nat → Int) (b : Nat) (wr : World) : Prop := Polys wr g np ev ∧ Mem w wr [.cel b 38 #[.int .i64 0]]
set_option linter.unusedVariables false in
set_option maxRecDepth 20000 in
set_option maxHeartbeats 4000000 in
theorem attP_any (F : FuncId) (caps : Array Value) (g np c : Nat) (ev : Nat → Int) (r : Except Int (List Rat)) (w : World) (hp : Polys w g np ev) (hn : np ≤ 100) (hc : np ≤ c) (hev : ∀ k, k < np → ev k = 0)
    (hF : F = 65 ∨ F = 67 ∨ F = 70 ∨ F = 77 ∨ F = 82 ∨ F = 90 ∨ F = 92) (HC : Hid (∀ W : World, Below w.heap.size w W → Calls Tryz.prog F caps W (OutP r W))) :
    Calls Tryz.prog 64 #[.func (.func F) #[] caps, .slice (some ⟨g, 0, none⟩) np c] w (AttP r w) := by
  have hmf : ∀ (fn : Fn) (first cap : Array Value) (w : World), (Instr.makeFunc fn first cap).run Tryz.prog w = .ok (.func fn first cap) w := fun _ _ _ _ => rfl
  have H0 := hI (show AtR w g np ev w.heap.size (w.alloc (.cells #[.int .i64 0] 38)) from ⟨hp.on (below_new _ _), (Mem.nil w).newCel (noU1 0) _ rfl⟩)
  have HEV := hI hev
  clear hp hev
  go_enter_defers Tryz.func64, Tryz.ntmps64
  go_wp2_with fail
  go_loopw [11, 4] (fun v x wr => ∃ k : Nat, v = .int .i64 k ∧ x = .slice none 0 0 ∧ k ≤ np ∧ Hid (AtR w g np ev w.heap.size wr)) (fun v _ _ => np - (intOf v).toNat)
  case atStart => exact ⟨0, rfl, rfl, Nat.zero_le _, H0⟩
  case round =>
    obtain ⟨k, rfl, rfl, hk, HR⟩ := hrel
    clear H0
    by_cases hlt : k < np
    · obtain ⟨A, n, c1, L, x0, hp, hn1, he⟩ := HR.out.1.at_ hlt
      have HP := hI hp
      have C := ucheck_any A n c1 L wr hp hn1
      rw [he, HEV.out k hlt] at C
      have HC2 := hI C
      clear C hp he
      go_wp2_with fail
      refine HC2.out.mono ?_
      rintro e w1 ⟨rfl, hb⟩
      have HR2 := hI (show AtR w g np ev w.heap.size w1 from ⟨HR.out.1.on hb, HR.out.2.on hb⟩)
      clear hb x0 HP HC2
      go_wp2
      go_roundw
      case rel => exact ⟨k + 1, by go_num, rfl, by omega, HR2⟩
      case measure => simp [intOf]; omega
    · have M := hI HR.out.2
      have CC := HC.out wr HR.out.2.bel
      have HF2 := hI hF
      clear hF
      have hlt2 : ¬ k < np := hlt
      rcases HF2.out with rfl | rfl | rfl | rfl | rfl | rfl | rfl
      all_goals
        rcases r with er | l
        · go_wp2_with fail
          refine CC.mono ?_
          rintro e w1 ⟨rfl, hb⟩
          have M1 := hI (M.out.on hb)
          clear hb
          go_wp2
          refine leaves_cons (f := 121) (args := #[.pointer (some ⟨w.heap.size, 0, none⟩)]) (by simp) (by simp [go_sem]) ?_
          refine (catchP_some w.heap.size 0 er [] w1 (M1.out.cel 0 rfl).1).mono ?_
          rintro e u' w'' ⟨rfl, rfl, rfl⟩
          have B2 := Blk.set_ (Blk.alloc (M1.out.cel 0 rfl).1 (.cells #[.int .i64 er] 109)) 0 (.int .i64 er)
          have j0 := Blk.cell B2 0
          simp at j0
          have HB := hI ((M1.out.bel.alloc (Nat.le_trans M1.out.bel.size (Nat.le_refl _)) (.cells #[.int .i64 er] 109)).setCell (p := ⟨w.heap.size, 0, none⟩) (Nat.le_refl _) (.int .i64 er))
          simp [Leaves, settle, results, Tryz.results64, go_sem, j0]
          exact ⟨rfl, HB.out⟩
        · go_wp2_with fail
          refine CC.mono ?_
          rintro e w1 ⟨A2, n2, c2, L2, rfl, hp, hv, hf, hb⟩
          have M1 := hI (M.out.addPol hb hp hf)
          have HP := hI (And.intro hv (show ∀ ad, A2 = some ad → w.heap.size ≤ ad.block from fun ad e => Nat.le_trans HR.out.2.bel.size (hf ad e)))
          clear hp hv hf hb
          have c0 := (M1.out.cel 1 rfl).1.cell 0
          have f0 := (M1.out.cel 1 rfl).1.frozen 0
          simp only [List.getElem?_toArray, List.getElem?_cons_zero] at c0
          go_wp2
          clear c0 f0
          generalize hU : World.setCell w1 _ _ = U
          have M2 : Hid (Mem w U _) := hI (hU ▸ (M1.out.putCel 1 rfl 0 (by decide) (fun x e => by cases e)))
          clear hU
          refine leaves_cons (f := 121) (args := #[.pointer (some ⟨w.heap.size, 0, none⟩)]) (by simp) (by simp [go_sem]) ?_
          refine (catchP_idle ⟨w.heap.size, 0, none⟩ U).mono ?_
          rintro e u' w'' ⟨rfl, rfl, rfl⟩
          have j0 := Blk.cell (M2.out.cel 1 rfl).1 0
          simp at j0
          simp [Leaves, settle, results, Tryz.results64, go_sem, j0]
          exact ⟨A2, n2, c2, L2, rfl, M2.out.pol 0 rfl, HP.out.1, HP.out.2, M2.out.bel⟩
end Go.Proofs.YtjbnclfbkccieaaGreatDoor
namespace Go.Proofs.YtjbnclfbkccieaaGreatDoor
open Go.RowKit
/-- What attempt hands back beside a number. -/
def AttW (r : Except Int Rat) (w : World) (e : Ending) (w' : World) : Prop := match r with
  | .ok x => ∃ q : RVal, e = .returned (.tuple #[.agg #[.bool q.g, .slice q.A q.n q.c, .bool q.gd, .slice q.Ad q.nd q.cd], .int .i64 0]) ∧ q.In w' ∧ q.v = some x ∧ Below w.heap.size w w'
  | .error er => e = .returned (.tuple #[.agg #[.bool false, .slice none 0 0, .bool false, .slice none 0 0], .int .i64 er]) ∧ Below w.heap.size w w'
/-- What attempt hands back beside a division. -/
def AttD (r : Except Int (List Rat × List Rat)) (w : World) (e : Ending) (w' : World) : Prop := match r with
  | .ok d => ∃ (A : Option Addr) (n c : Nat) (L : List RVal) (A' : Option Addr) (n' c' : Nat) (L' : List RVal), e = .returned (.tuple #[.agg #[.slice A n c, .slice A' n' c'], .int .i64 0]) ∧ PSl w' A n c L ∧ Vs L d.1 ∧ (∀ ad, A = some ad → w.heap.size ≤ ad.block) ∧ PSl w' A' n' c' L' ∧ Vs L' d.2 ∧ (∀ ad, A' = some ad → w.heap.size ≤ ad.block) ∧ Below w.heap.size w w'
  | .error er => e = .returned (.tuple #[.agg #[.slice none 0 0, .slice none 0 0], .int .i64 er]) ∧ Below w.heap.size w w'
def RetSt (s : ByteArray) (w : World) (e : Ending) (w' : World) : Prop := e = .returned (.string s) ∧ Below w.heap.size w w'
def AttT (s : ByteArray) (w : World) (e : Ending) (w' : World) : Prop := e = .returned (.tuple #[.string s, .int .i64 0]) ∧ Below w.heap.size w w'
def AtWR (w : World) (g np : Nat) (ev : Nat → Int) (wr : World) : Prop := Polys wr g np ev ∧ Mem w wr [.cel (w.heap.size + 1) 38 #[.int .i64 0], .box w.heap.size RVal.nil]
set_option linter.unusedVariables false in
set_option maxRecDepth 20000 in
set_option maxHeartbeats 4000000 in
theorem attW_any (F : FuncId) (caps : Array Value) (g np c : Nat) (ev : Nat → Int) (r : Except Int Rat) (w : World) (hp : Polys w g np ev) (hn : np ≤ 100) (hc : np ≤ c) (hev : ∀ k, k < np → ev k = 0) (hF : F = 74 ∨ F = 94) (HC : Hid (∀ W : World, Below w.heap.size w W → Calls Tryz.prog F caps W (OutW r W))) :
    Calls Tryz.prog 73 #[.func (.func F) #[] caps, .slice (some ⟨g, 0, none⟩) np c] w (AttW r w) := by
  have hmf : ∀ (fn : Fn) (first cap : Array Value) (w : World), (Instr.makeFunc fn first cap).run Tryz.prog w = .ok (.func fn first cap) w := fun _ _ _ _ => rfl
  have H0 := hI (show AtWR w g np ev ((w.alloc (.cells #[.bool false, .slice none 0 0, .bool false, .slice none 0 0] 27)).alloc (.cells #[.int .i64 0] 38)) from ⟨(hp.on (below_new _ _)).on (below_new _ _), ((Mem.nil w).newNil _ rfl).newCel (noU1 0) (w.heap.size + 1) (by simp)⟩)
  have HEV := hI hev
  have HF2 := hI hF
  clear hp hev hF
  go_enter_defers Tryz.func73, Tryz.ntmps73
  go_wp2_with fail
  go_loopw [11] (fun v wr => ∃ k : Nat, v = .int .i64 k ∧ k ≤ np ∧ Hid (AtWR w g np ev wr)) (fun v _ => np - (intOf v).toNat)
  case atStart => exact ⟨0, rfl, Nat.zero_le _, H0⟩
  case round =>
    obtain ⟨k, rfl, hk, HR⟩ := hrel
    clear H0
    by_cases hlt : k < np
    · obtain ⟨A, n, c1, L, x0, hp, hn1, he⟩ := HR.out.1.at_ hlt
      have HP := hI hp
      have C := ucheck_any A n c1 L wr hp hn1
      rw [he, HEV.out k hlt] at C
      have HC2 := hI C
      clear C hp he
      go_wp2_with fail
      refine HC2.out.mono ?_
      rintro e w1 ⟨rfl, hb⟩
      have HR2 := hI (show AtWR w g np ev w1 from ⟨HR.out.1.on hb, HR.out.2.on hb⟩)
      clear hb x0 HP HC2
      go_wp2
      go_roundw
      case rel => exact ⟨k + 1, by go_num, by omega, HR2⟩
      case measure => simp [intOf]; omega
    · have M := hI HR.out.2
      have CC := HC.out wr HR.out.2.bel
      rcases HF2.out with rfl | rfl
      all_goals
        rcases r with er | x
        · go_wp2_with fail
          refine CC.mono ?_
          rintro e w1 ⟨rfl, hb⟩
          have M1 := hI (M.out.on hb)
          clear hb
          go_wp2
          refine leaves_cons (f := 128) (args := #[.pointer (some ⟨w.heap.size + 1, 0, none⟩)]) (by simp) (by simp [go_sem]) ?_
          refine (catchW_some (w.heap.size + 1) 0 er [] w1 (M1.out.cel 0 rfl).1).mono ?_
          rintro e u' w'' ⟨rfl, rfl, rfl⟩
          have M2 := hI ((M1.out.newCel (t := 109) (noU1 er) _ rfl).putCel 1 rfl 0 (by decide) (u := .int .i64 er) (fun x e => by cases e))
          have j0 := Blk.cell (M2.out.cel 1 rfl).1 0
          simp at j0
          have j1 := (M2.out.box 2 rfl).cs
          obtain ⟨j1, j2, j3, j4⟩ := j1
          simp only [RVal.nil] at j1 j2 j3 j4
          simp [Leaves, settle, results, Tryz.results73, go_sem, j0, j1, j2, j3, j4]
          exact ⟨rfl, M2.out.bel⟩
        · go_wp2_with fail
          refine CC.mono ?_
          rintro e w1 ⟨q, rfl, hq, hv, hb⟩
          have M1 := hI ((M.out.on hb).addRat hq)
          have HV := hI hv
          clear hq hv hb
          have c0 := (M1.out.cel 1 rfl).1.cell 0
          have f0 := (M1.out.cel 1 rfl).1.frozen 0
          simp only [List.getElem?_toArray, List.getElem?_cons_zero] at c0
          obtain ⟨d0, d1, d2, d3⟩ := (M1.out.box 2 rfl).cs
          obtain ⟨g0, g1, g2, g3⟩ := (M1.out.box 2 rfl).fs
          go_wp2
          clear c0 f0 d0 d1 d2 d3 g0 g1 g2 g3
          generalize hU : World.setCell (World.setCell (World.setCell (World.setCell (World.setCell w1 _ _) _ _) _ _) _ _) _ _ = U
          have M2 : Hid (Mem w U _) := hI (hU ▸ ((M1.out.put 2 rfl (M1.out.rat 0 rfl)).putCel 1 rfl 0 (by decide) (u := .int .i64 0) (fun x e => by cases e)))
          clear hU
          refine leaves_cons (f := 128) (args := #[.pointer (some ⟨w.heap.size + 1, 0, none⟩)]) (by simp) (by simp [go_sem]) ?_
          refine (catchW_idle ⟨w.heap.size + 1, 0, none⟩ U).mono ?_
          rintro e u' w'' ⟨rfl, rfl, rfl⟩
          have j0 := Blk.cell (M2.out.cel 1 rfl).1 0
          simp at j0
          obtain ⟨j1, j2, j3, j4⟩ := (M2.out.box 2 rfl).cs
          simp [Leaves, settle, results, Tryz.results73, go_sem, j0, j1, j2, j3, j4]
          exact ⟨q, rfl, M2.out.rat 0 rfl, HV.out, M2.out.bel⟩
def AtDR (w : World) (g np : Nat) (ev : Nat → Int) (wr : World) : Prop := Polys wr g np ev ∧ Mem w wr [.cel (w.heap.size + 1) 38 #[.int .i64 0], .cel w.heap.size 84 #[.slice none 0 0, .slice none 0 0]]
set_option linter.unusedVariables false in
set_option maxRecDepth 20000 in
set_option maxHeartbeats 4000000 in
theorem attD_any (F : FuncId) (caps : Array Value) (g np c : Nat) (ev : Nat → Int) (r : Except Int (List Rat × List Rat)) (w : World) (hp : Polys w g np ev) (hn : np ≤ 100) (hc : np ≤ c) (hev : ∀ k, k < np → ev k = 0) (hF : F = 80) (HC : Hid (∀ W : World, Below w.heap.size w W → Calls Tryz.prog F caps W (OutD r W))) :
    Calls Tryz.prog 79 #[.func (.func F) #[] caps, .slice (some ⟨g, 0, none⟩) np c] w (AttD r w) := by
  have hmf : ∀ (fn : Fn) (first cap : Array Value) (w : World), (Instr.makeFunc fn first cap).run Tryz.prog w = .ok (.func fn first cap) w := fun _ _ _ _ => rfl
  have H0 := hI (show AtDR w g np ev ((w.alloc (.cells #[.slice none 0 0, .slice none 0 0] 84)).alloc (.cells #[.int .i64 0] 38)) from ⟨(hp.on (below_new _ _)).on (below_new _ _), ((Mem.nil w).newCel (t := 84) noU2s _ rfl).newCel (noU1 0) (w.heap.size + 1) (by simp)⟩)
  have HEV := hI hev
  have HF2 := hI hF
  clear hp hev hF
  go_enter_defers Tryz.func79, Tryz.ntmps79
  go_wp2_with fail
  go_loopw [11] (fun v wr => ∃ k : Nat, v = .int .i64 k ∧ k ≤ np ∧ Hid (AtDR w g np ev wr)) (fun v _ => np - (intOf v).toNat)
  case atStart => exact ⟨0, rfl, Nat.zero_le _, H0⟩
  case round =>
    obtain ⟨k, rfl, hk, HR⟩ := hrel
    clear H0
    by_cases hlt : k < np
    · obtain ⟨A, n, c1, L, x0, hp, hn1, he⟩ := HR.out.1.at_ hlt
      have HP := hI hp
      have C := ucheck_any A n c1 L wr hp hn1
      rw [he, HEV.out k hlt] at C
      have HC2 := hI C
      clear C hp he
      go_wp2_with fail
      refine HC2.out.mono ?_
      rintro e w1 ⟨rfl, hb⟩
      have HR2 := hI (show AtDR w g np ev w1 from ⟨HR.out.1.on hb, HR.out.2.on hb⟩)
      clear hb x0 HP HC2
      go_wp2
      go_roundw
      case rel => exact ⟨k + 1, by go_num, by omega, HR2⟩
      case measure => simp [intOf]; omega
    · have M := hI HR.out.2
      have CC := HC.out wr HR.out.2.bel
      rcases HF2.out with rfl
      all_goals
        rcases r with er | d
        · go_wp2_with fail
          refine CC.mono ?_
          rintro e w1 ⟨rfl, hb⟩
          have M1 := hI (M.out.on hb)
          clear hb
          go_wp2
          refine leaves_cons (f := 130) (args := #[.pointer (some ⟨w.heap.size + 1, 0, none⟩)]) (by simp) (by simp [go_sem]) ?_
          refine (catchD_some (w.heap.size + 1) 0 er [] w1 (M1.out.cel 0 rfl).1).mono ?_
          rintro e u' w'' ⟨rfl, rfl, rfl⟩
          have M2 := hI ((M1.out.newCel (t := 109) (noU1 er) _ rfl).putCel 1 rfl 0 (by decide) (u := .int .i64 er) (fun x e => by cases e))
          have j0 := Blk.cell (M2.out.cel 1 rfl).1 0
          simp at j0
          have j1 := Blk.cell (M2.out.cel 2 rfl).1 0
          have j2 := Blk.cell (M2.out.cel 2 rfl).1 1
          simp at j1 j2
          simp [Leaves, settle, results, Tryz.results79, go_sem, j0, j1, j2]
          exact ⟨rfl, M2.out.bel⟩
        · go_wp2_with fail
          refine CC.mono ?_
          rintro e w1 ⟨A1, n1, c1, L1, A2, n2, c2, L2, rfl, hp, hv, hf, hp2, hv2, hf2, hb⟩
          have M0 := M.out.addPol hb hp hf
          have M1 := hI (show Mem w w1 (.pol A2 n2 c2 L2 :: .pol A1 n1 c1 L1 :: _) from M0.cons (x := .pol A2 n2 c2 L2) hp2 rfl fun y k r e _ ad hA => by
            rcases List.mem_cons.1 k with rfl | k
            · cases e
            · have := (M.out.all y k).lt e; have := hf2 ad hA; omega)
          have HV := hI (And.intro (And.intro hv (show ∀ ad, A1 = some ad → w.heap.size ≤ ad.block from fun ad e => Nat.le_trans HR.out.2.bel.size (hf ad e))) (And.intro hv2 (show ∀ ad, A2 = some ad → w.heap.size ≤ ad.block from fun ad e => Nat.le_trans HR.out.2.bel.size (hf2 ad e))))
          clear hp hv hf hp2 hv2 hf2 hb M0
          have c0 := (M1.out.cel 2 rfl).1.cell 0
          have f0 := (M1.out.cel 2 rfl).1.frozen 0
          have d0 := (M1.out.cel 3 rfl).1.cell 0
          have d1 := (M1.out.cel 3 rfl).1.cell 1
          have g0 := (M1.out.cel 3 rfl).1.frozen 0
          have g1 := (M1.out.cel 3 rfl).1.frozen 1
          simp only [List.getElem?_toArray, List.getElem?_cons_zero, List.getElem?_cons_succ] at c0 d0 d1
          go_wp2
          clear c0 f0 d0 d1 g0 g1
          generalize hU : World.setCell (World.setCell (World.setCell w1 _ _) _ _) _ _ = U
          have M2 : Hid (Mem w U _) := hI (hU ▸ (((M1.out.putCel 3 rfl 0 (by decide) (ns A1 n1 c1)).putCel 3 rfl 1 (by simp) (ns A2 n2 c2)).putCel 2 rfl 0 (by decide) (u := .int .i64 0) (fun x e => by cases e)))
          clear hU
          refine leaves_cons (f := 130) (args := #[.pointer (some ⟨w.heap.size + 1, 0, none⟩)]) (by simp) (by simp [go_sem]) ?_
          refine (catchD_idle ⟨w.heap.size + 1, 0, none⟩ U).mono ?_
          rintro e u' w'' ⟨rfl, rfl, rfl⟩
          have j0 := Blk.cell (M2.out.cel 2 rfl).1 0
          have j1 := Blk.cell (M2.out.cel 3 rfl).1 0
          have j2 := Blk.cell (M2.out.cel 3 rfl).1 1
          simp at j0 j1 j2
          simp [Leaves, settle, results, Tryz.results79, go_sem, j0, j1, j2]
          exact ⟨A1, n1, c1, L1, A2, n2, c2, L2, rfl, M2.out.pol 1 rfl, HV.out.1.1, HV.out.1.2, M2.out.pol 0 rfl, HV.out.2.1, HV.out.2.2, M2.out.bel⟩
def AtTR (w : World) (g np : Nat) (ev : Nat → Int) (wr : World) : Prop := Polys wr g np ev ∧ Mem w wr [.cel w.heap.size 38 #[.int .i64 0]]
set_option linter.unusedVariables false in
set_option maxRecDepth 20000 in
set_option maxHeartbeats 4000000 in
theorem attT_any (F : FuncId) (caps : Array Value) (g np c : Nat) (ev : Nat → Int) (s : ByteArray) (w : World) (hp : Polys w g np ev) (hn : np ≤ 100) (hc : np ≤ c) (hev : ∀ k, k < np → ev k = 0) (hF : F = 103) (HC : Hid (∀ W : World, Below w.heap.size w W → Calls Tryz.prog F caps W (RetSt s W))) :
    Calls Tryz.prog 102 #[.func (.func F) #[] caps, .slice (some ⟨g, 0, none⟩) np c] w (AttT s w) := by
  have hmf : ∀ (fn : Fn) (first cap : Array Value) (w : World), (Instr.makeFunc fn first cap).run Tryz.prog w = .ok (.func fn first cap) w := fun _ _ _ _ => rfl
  have H0 := hI (show AtTR w g np ev (w.alloc (.cells #[.int .i64 0] 38)) from ⟨hp.on (below_new _ _), (Mem.nil w).newCel (noU1 0) _ rfl⟩)
  have HEV := hI hev
  have HF2 := hI hF
  clear hp hev hF
  go_enter_defers Tryz.func102, Tryz.ntmps102
  go_wp2_with fail
  go_loopw [11, 4] (fun v x wr => ∃ k : Nat, v = .int .i64 k ∧ x = .string ⟨#[]⟩ ∧ k ≤ np ∧ Hid (AtTR w g np ev wr)) (fun v _ _ => np - (intOf v).toNat)
  case atStart => exact ⟨0, rfl, rfl, Nat.zero_le _, H0⟩
  case round =>
    obtain ⟨k, rfl, rfl, hk, HR⟩ := hrel
    clear H0
    by_cases hlt : k < np
    · obtain ⟨A, n, c1, L, x0, hp, hn1, he⟩ := HR.out.1.at_ hlt
      have HP := hI hp
      have C := ucheck_any A n c1 L wr hp hn1
      rw [he, HEV.out k hlt] at C
      have HC2 := hI C
      clear C hp he
      go_wp2_with fail
      refine HC2.out.mono ?_
      rintro e w1 ⟨rfl, hb⟩
      have HR2 := hI (show AtTR w g np ev w1 from ⟨HR.out.1.on hb, HR.out.2.on hb⟩)
      clear hb x0 HP HC2
      go_wp2
      go_roundw
      case rel => exact ⟨k + 1, by go_num, rfl, by omega, HR2⟩
      case measure => simp [intOf]; omega
    · have M := hI HR.out.2
      have CC := HC.out wr HR.out.2.bel
      rcases HF2.out with rfl
      all_goals
        go_wp2_with fail
        refine CC.mono ?_
        rintro e w1 ⟨rfl, hb⟩
        have M1 := hI (M.out.on hb)
        clear hb
        have c0 := (M1.out.cel 0 rfl).1.cell 0
        have f0 := (M1.out.cel 0 rfl).1.frozen 0
        simp only [List.getElem?_toArray, List.getElem?_cons_zero] at c0
        go_wp2
        clear c0 f0
        generalize hU : World.setCell w1 _ _ = U
        have M2 : Hid (Mem w U _) := hI (hU ▸ (M1.out.putCel 0 rfl 0 (by decide) (u := .int .i64 0) (fun x e => by cases e)))
        clear hU
        refine leaves_cons (f := 143) (args := #[.pointer (some ⟨w.heap.size, 0, none⟩)]) (by simp) (by simp [go_sem]) ?_
        refine (catchT_idle ⟨w.heap.size, 0, none⟩ U).mono ?_
        rintro e u' w'' ⟨rfl, rfl, rfl⟩
        have j0 := Blk.cell (M2.out.cel 0 rfl).1 0
        simp at j0
        simp [Leaves, settle, results, Tryz.results102, go_sem, j0]
        exact ⟨rfl, M2.out.bel⟩
end Go.Proofs.YtjbnclfbkccieaaGreatDoor
