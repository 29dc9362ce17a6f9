/-
 Stage 3: attempt: the deferred closure, and attempt itself where it returns a polynomial, a number, a division or a string. Stage 3: attempt where it returns a number, a division or a string. Stage 3: the package's functions on polynomials: Add, Sub, Mul, GCD, Compose, Derivative, Squarefree, Resultant, Eval, DivMod. Stage 3: Resultant, Eval and DivMod. Stage 3: the reference's SameInt, SameRat and Same, where they say yes. Stage 3: the laws' number, linear, pick and Poly. Stage 3: Mul hands back a slice of its own.
-/
import Derived.Defers
import Derived.Recover
import Derived.Deep.QuietTactic
import Derived.BigQuiet
import Derived.Maps.AppendAt
import Derived.Laws.Tables
import Derived.Test.YtmncfbfepdbioaaGreatDoorPolDv
import Derived.Test.YtmncfbfepdbioaaGreatDoorUniLm
import Derived.Test.YtmncfbfepdbioaaGreatDoorPolE
import Derived.Test.YtmncfbfepdbioaaGreatDoorRatRb
set_option linter.unusedSimpArgs false
set_option maxRecDepth 20000
set_option linter.unusedVariables false
set_option maxHeartbeats 4000000
namespace Go.Proofs.YtmncfbfepdbioaaGreatDoor
open Go.RowKit
theorem assert_ab (er : Int) (w : World) : (Instr.typeAssert (.iface 109 (.agg #[.int .i64 er])) 20 109 true).run Tryz.prog w = .ok (.tuple #[.agg #[.int .i64 er], .bool true]) w := by kernel_rfl
theorem catchP_idle (p : Addr) (w : World) : CallsD Tryz.prog 121 #[.pointer (some p)] .returning w fun e u' w' => e = .returned (.tuple #[]) /\ u' = .returning /\ w' = w := by
 refine callsD_of_wpS Tryz.func121 rfl fun c₀ cs hu => ?_
 apply wpS_seq
 apply wpS_region
 simp [wpOpsS, go_sem, recoverD, hu, Tryz.ntmps121, Exit.thenS]
 refine wpS_of_wp ?_
 go_wp2
 cases c₀
 simp_all [bodyPostS, results, Tryz.results121]
theorem catchP_some (b : Nat) (x er : Int) (older : List PanicEntry) (w : World) (hb : Blk w b 38 #[.int .i64 x]) :
 CallsD Tryz.prog 121 #[.pointer (some ⟨b, 0, none⟩)] (.panicking ({ v := .iface 109 (.agg #[.int .i64 er]), recovered := false } :: older)) w fun e u' w' => e = .returned (.tuple #[]) /\ u' = .panicking ({ v := .iface 109 (.agg #[.int .i64 er]), recovered := true } :: older) /\ w' = (w.alloc (.cells #[.int .i64 er] 109)).setCell ⟨b, 0, none⟩ (.int .i64 er) := by
 have k0 := Blk.cell (Blk.alloc hb (.cells #[.int .i64 er] 109)) 0
 have k1 := Blk.frozen (Blk.alloc hb (.cells #[.int .i64 er] 109)) 0
 simp only [List.getElem?_toArray, List.getElem?_cons_zero] at k0
 have hta := assert_ab er
 clear hb
 refine callsD_of_wpS Tryz.func121 rfl fun c₀ cs hu => ?_
 apply wpS_seq
 apply wpS_region
 simp [wpOpsS, go_sem, recoverD, hu, Tryz.ntmps121, Exit.thenS]
 refine wpS_of_wp ?_
 generalize hT : (HAppend.hAppend _ _ : Array Value) = T
 obtain rfl : T = #[.pointer (some ⟨b, 0, none⟩), undef, undef, undef, .iface 109 (.agg #[.int .i64 er]), undef, undef, undef, undef, undef, undef, undef] := by rw [<- hT]; rfl
 clear hT
 go_wp2
 cases c₀
 simp_all [bodyPostS, results, Tryz.results121]
theorem catchW_idle (p : Addr) (w : World) : CallsD Tryz.prog 128 #[.pointer (some p)] .returning w fun e u' w' => e = .returned (.tuple #[]) /\ u' = .returning /\ w' = w := by
 refine callsD_of_wpS Tryz.func128 rfl fun c₀ cs hu => ?_
 apply wpS_seq
 apply wpS_region
 simp [wpOpsS, go_sem, recoverD, hu, Tryz.ntmps128, Exit.thenS]
 refine wpS_of_wp ?_
 go_wp2
 cases c₀
 simp_all [bodyPostS, results, Tryz.results128]
theorem catchW_some (b : Nat) (x er : Int) (older : List PanicEntry) (w : World) (hb : Blk w b 38 #[.int .i64 x]) :
 CallsD Tryz.prog 128 #[.pointer (some ⟨b, 0, none⟩)] (.panicking ({ v := .iface 109 (.agg #[.int .i64 er]), recovered := false } :: older)) w fun e u' w' => e = .returned (.tuple #[]) /\ u' = .panicking ({ v := .iface 109 (.agg #[.int .i64 er]), recovered := true } :: older) /\ w' = (w.alloc (.cells #[.int .i64 er] 109)).setCell ⟨b, 0, none⟩ (.int .i64 er) := by
 have k0 := Blk.cell (Blk.alloc hb (.cells #[.int .i64 er] 109)) 0
 have k1 := Blk.frozen (Blk.alloc hb (.cells #[.int .i64 er] 109)) 0
 simp only [List.getElem?_toArray, List.getElem?_cons_zero] at k0
 have hta := assert_ab er
 clear hb
 refine callsD_of_wpS Tryz.func128 rfl fun c₀ cs hu => ?_
 apply wpS_seq
 apply wpS_region
 simp [wpOpsS, go_sem, recoverD, hu, Tryz.ntmps128, Exit.thenS]
 refine wpS_of_wp ?_
 generalize hT : (HAppend.hAppend _ _ : Array Value) = T
 obtain rfl : T = #[.pointer (some ⟨b, 0, none⟩), undef, undef, undef, .iface 109 (.agg #[.int .i64 er]), undef, undef, undef, undef, undef, undef, undef] := by rw [<- hT]; rfl
 clear hT
 go_wp2
 cases c₀
 simp_all [bodyPostS, results, Tryz.results128]
theorem catchD_idle (p : Addr) (w : World) : CallsD Tryz.prog 130 #[.pointer (some p)] .returning w fun e u' w' => e = .returned (.tuple #[]) /\ u' = .returning /\ w' = w := by
 refine callsD_of_wpS Tryz.func130 rfl fun c₀ cs hu => ?_
 apply wpS_seq
 apply wpS_region
 simp [wpOpsS, go_sem, recoverD, hu, Tryz.ntmps130, Exit.thenS]
 refine wpS_of_wp ?_
 go_wp2
 cases c₀
 simp_all [bodyPostS, results, Tryz.results130]
theorem catchD_some (b : Nat) (x er : Int) (older : List PanicEntry) (w : World) (hb : Blk w b 38 #[.int .i64 x]) :
 CallsD Tryz.prog 130 #[.pointer (some ⟨b, 0, none⟩)] (.panicking ({ v := .iface 109 (.agg #[.int .i64 er]), recovered := false } :: older)) w fun e u' w' => e = .returned (.tuple #[]) /\ u' = .panicking ({ v := .iface 109 (.agg #[.int .i64 er]), recovered := true } :: older) /\ w' = (w.alloc (.cells #[.int .i64 er] 109)).setCell ⟨b, 0, none⟩ (.int .i64 er) := by
 have k0 := Blk.cell (Blk.alloc hb (.cells #[.int .i64 er] 109)) 0
 have k1 := Blk.frozen (Blk.alloc hb (.cells #[.int .i64 er] 109)) 0
 simp only [List.getElem?_toArray, List.getElem?_cons_zero] at k0
 have hta := assert_ab er
 clear hb
 refine callsD_of_wpS Tryz.func130 rfl fun c₀ cs hu => ?_
 apply wpS_seq
 apply wpS_region
 simp [wpOpsS, go_sem, recoverD, hu, Tryz.ntmps130, Exit.thenS]
 refine wpS_of_wp ?_
 generalize hT : (HAppend.hAppend _ _ : Array Value) = T
 obtain rfl : T = #[.pointer (some ⟨b, 0, none⟩), undef, undef, undef, .iface 109 (.agg #[.int .i64 er]), undef, undef, undef, undef, undef, undef, undef] := by rw [<- hT]; rfl
 clear hT
 go_wp2
 cases c₀
 simp_all [bodyPostS, results, Tryz.results130]
theorem catchT_idle (p : Addr) (w : World) : CallsD Tryz.prog 143 #[.pointer (some p)] .returning w fun e u' w' => e = .returned (.tuple #[]) /\ u' = .returning /\ w' = w := by
 refine callsD_of_wpS Tryz.func143 rfl fun c₀ cs hu => ?_
 apply wpS_seq
 apply wpS_region
 simp [wpOpsS, go_sem, recoverD, hu, Tryz.ntmps143, Exit.thenS]
 refine wpS_of_wp ?_
 go_wp2
 cases c₀
 simp_all [bodyPostS, results, Tryz.results143]
def Polys (w : World) (g np : Nat) (ev : Nat -> Int) : Prop := ∃ cs : Array Value, Blk w g 22 cs /\ cs.size = np /\ ∀ k, k < np -> ∃ (A : Option Addr) (n c : Nat) (L : List RVal), cs[k]? = some (.slice A n c) /\ PSl w A n c L /\ n <= 100000 /\ chkE L = ev k
theorem Polys.on {w w' : World} {g np : Nat} {ev : Nat -> Int} (h : Polys w g np ev) (hb : Below w.heap.size w w') : Polys w' g np ev := by
 obtain ⟨cs, h1, h2, h3⟩ := h
 refine ⟨cs, Blk.below h1 hb (Blk.lt h1), h2, fun k hk => ?_⟩
 obtain ⟨A, n, c, L, e1, e2, e3, e4⟩ := h3 k hk
 exact ⟨A, n, c, L, e1, e2.on hb, e3, e4⟩
theorem Polys.at_ {w : World} {g np : Nat} {ev : Nat -> Int} (h : Polys w g np ev) {k : Nat} (hk : k < np) : ∃ (A : Option Addr) (n c : Nat) (L : List RVal), w.cell? ⟨g, k, none⟩ = some (.slice A n c) /\ PSl w A n c L /\ n <= 100000 /\ chkE L = ev k := by
 obtain ⟨cs, h1, h2, h3⟩ := h
 obtain ⟨A, n, c, L, e1, e2, e3, e4⟩ := h3 k hk
 exact ⟨A, n, c, L, by rw [Blk.cell h1 k]; exact e1, e2, e3, e4⟩
theorem noU1 (x : Int) : NoU #[.int .i64 x] := by
 intro i v hv x e
 subst e
 rw [List.getElem?_toArray] at hv
 have := List.mem_of_getElem? hv
 simp at this
def AttP (r : Except Int (List Rat)) (w : World) (e : Ending) (w' : World) : Prop := match r with
 | .ok l => ∃ (A : Option Addr) (n c : Nat) (L : List RVal), e = .returned (.tuple #[.slice A n c, .int .i64 0]) /\ PSl w' A n c L /\ Vs L l /\ (∀ ad, A = some ad -> w.heap.size <= ad.block) /\ Below w.heap.size w w'
 | .error er => e = .returned (.tuple #[.slice none 0 0, .int .i64 er]) /\ Below w.heap.size w w'
def AtR (w : World) (g np : Nat) (ev : Nat -> Int) (b : Nat) (wr : World) : Prop := Polys wr g np ev /\ Mem w wr [.cel b 38 #[.int .i64 0]]
theorem attP_any (F : FuncId) (caps : Array Value) (g np c : Nat) (ev : Nat -> Int) (r : Except Int (List Rat)) (w : World) (hp : Polys w g np ev) (hn : np <= 100) (hc : np <= c) (hev : ∀ k, k < np -> ev k = 0)
 (hF : F = 65 \/ F = 67 \/ F = 70 \/ F = 77 \/ F = 82 \/ F = 90 \/ F = 92) (HC : Hid (∀ W : World, Below w.heap.size w W -> Calls Tryz.prog F caps W (OutP r W))) :
 Calls Tryz.prog 64 #[.func (.func F) #[] caps, .slice (some ⟨g, 0, none⟩) np c] w (AttP r w) := by
 have hmf : ∀ (fn : Fn) (first cap : Array Value) (w : World), (Instr.makeFunc fn first cap).run Tryz.prog w = .ok (.func fn first cap) w := fun _ _ _ _ => rfl
 have H0 := hI (show AtR w g np ev w.heap.size (w.alloc (.cells #[.int .i64 0] 38)) from ⟨hp.on (below_new _ _), (Mem.nil w).newCel (noU1 0) _ rfl⟩)
 have HEV := hI hev
 clear hp hev
 go_enter_defers Tryz.func64, Tryz.ntmps64
 go_wp2_with fail
 go_loopw [11, 4] (fun v x wr => ∃ k : Nat, v = .int .i64 k /\ x = .slice none 0 0 /\ k <= np /\ Hid (AtR w g np ev w.heap.size wr)) (fun v _ _ => np - (intOf v).toNat)
 case atStart => exact ⟨0, rfl, rfl, Nat.zero_le _, H0⟩
 case round =>
  obtain ⟨k, rfl, rfl, hk, HR⟩ := hrel
  clear H0
  by_cases hlt : k < np
  . obtain ⟨A, n, c1, L, x0, hp, hn1, he⟩ := HR.out.1.at_ hlt
    have HP := hI hp
    have C := ucheck_any A n c1 L wr hp hn1
    rw [he, HEV.out k hlt] at C
    have HC2 := hI C
    clear C hp he
    go_wp2_with fail
    refine HC2.out.mono ?_
    rintro e w1 ⟨rfl, hb⟩
    have HR2 := hI (show AtR w g np ev w.heap.size w1 from ⟨HR.out.1.on hb, HR.out.2.on hb⟩)
    clear hb x0 HP HC2
    go_wp2
    go_roundw
    case rel => exact ⟨k + 1, by go_num, rfl, by omega, HR2⟩
    case measure => simp [intOf]; omega
  . have M := hI HR.out.2
    have CC := HC.out wr HR.out.2.bel
    have HF2 := hI hF
    clear hF
    have hlt2 : ¬ k < np := hlt
    rcases HF2.out with rfl | rfl | rfl | rfl | rfl | rfl | rfl
    all_goals
     rcases r with er | l
     . go_wp2_with fail
       refine CC.mono ?_
       rintro e w1 ⟨rfl, hb⟩
       have M1 := hI (M.out.on hb)
       clear hb
       go_wp2
       refine leaves_cons (f := 121) (args := #[.pointer (some ⟨w.heap.size, 0, none⟩)]) (by simp) (by simp [go_sem]) ?_
       refine (catchP_some w.heap.size 0 er [] w1 (M1.out.cel 0 rfl).1).mono ?_
       rintro e u' w'' ⟨rfl, rfl, rfl⟩
       have B2 := Blk.set_ (Blk.alloc (M1.out.cel 0 rfl).1 (.cells #[.int .i64 er] 109)) 0 (.int .i64 er)
       have j0 := Blk.cell B2 0
       simp at j0
       have HB := hI ((M1.out.bel.alloc (Nat.le_trans M1.out.bel.size (Nat.le_refl _)) (.cells #[.int .i64 er] 109)).setCell (p := ⟨w.heap.size, 0, none⟩) (Nat.le_refl _) (.int .i64 er))
       simp [Leaves, settle, results, Tryz.results64, go_sem, j0]
       exact ⟨rfl, HB.out⟩
     . go_wp2_with fail
       refine CC.mono ?_
       rintro e w1 ⟨A2, n2, c2, L2, rfl, hp, hv, hf, hb⟩
       have M1 := hI (M.out.addPol hb hp hf)
       have HP := hI (And.intro hv (show ∀ ad, A2 = some ad -> w.heap.size <= ad.block from fun ad e => Nat.le_trans HR.out.2.bel.size (hf ad e)))
       clear hp hv hf hb
       have c0 := (M1.out.cel 1 rfl).1.cell 0
       have f0 := (M1.out.cel 1 rfl).1.frozen 0
       simp only [List.getElem?_toArray, List.getElem?_cons_zero] at c0
       go_wp2
       clear c0 f0
       generalize hU : World.setCell w1 _ _ = U
       have M2 : Hid (Mem w U _) := hI (hU ▸ (M1.out.putCel 1 rfl 0 (by decide) (fun x e => by cases e)))
       clear hU
       refine leaves_cons (f := 121) (args := #[.pointer (some ⟨w.heap.size, 0, none⟩)]) (by simp) (by simp [go_sem]) ?_
       refine (catchP_idle ⟨w.heap.size, 0, none⟩ U).mono ?_
       rintro e u' w'' ⟨rfl, rfl, rfl⟩
       have j0 := Blk.cell (M2.out.cel 1 rfl).1 0
       simp at j0
       simp [Leaves, settle, results, Tryz.results64, go_sem, j0]
       exact ⟨A2, n2, c2, L2, rfl, M2.out.pol 0 rfl, HP.out.1, HP.out.2, M2.out.bel⟩
end Go.Proofs.YtmncfbfepdbioaaGreatDoor
namespace Go.Proofs.YtmncfbfepdbioaaGreatDoor
open Go.RowKit
def AttW (r : Except Int Rat) (w : World) (e : Ending) (w' : World) : Prop := match r with
 | .ok x => ∃ q : RVal, e = .returned (.tuple #[.agg #[.bool q.g, .slice q.A q.n q.c, .bool q.gd, .slice q.Ad q.nd q.cd], .int .i64 0]) /\ q.In w' /\ q.v = some x /\ Below w.heap.size w w'
 | .error er => e = .returned (.tuple #[.agg #[.bool false, .slice none 0 0, .bool false, .slice none 0 0], .int .i64 er]) /\ Below w.heap.size w w'
def AttD (r : Except Int (List Rat × List Rat)) (w : World) (e : Ending) (w' : World) : Prop := match r with
 | .ok d => ∃ (A : Option Addr) (n c : Nat) (L : List RVal) (A' : Option Addr) (n' c' : Nat) (L' : List RVal), e = .returned (.tuple #[.agg #[.slice A n c, .slice A' n' c'], .int .i64 0]) /\ PSl w' A n c L /\ Vs L d.1 /\ (∀ ad, A = some ad -> w.heap.size <= ad.block) /\ PSl w' A' n' c' L' /\ Vs L' d.2 /\ (∀ ad, A' = some ad -> w.heap.size <= ad.block) /\ Below w.heap.size w w'
 | .error er => e = .returned (.tuple #[.agg #[.slice none 0 0, .slice none 0 0], .int .i64 er]) /\ Below w.heap.size w w'
def RetSt (s : ByteArray) (w : World) (e : Ending) (w' : World) : Prop := e = .returned (.string s) /\ Below w.heap.size w w'
def AttT (s : ByteArray) (w : World) (e : Ending) (w' : World) : Prop := e = .returned (.tuple #[.string s, .int .i64 0]) /\ Below w.heap.size w w'
def AtWR (w : World) (g np : Nat) (ev : Nat -> Int) (wr : World) : Prop := Polys wr g np ev /\ Mem w wr [.cel (w.heap.size + 1) 38 #[.int .i64 0], .box w.heap.size RVal.nil]
theorem attW_any (F : FuncId) (caps : Array Value) (g np c : Nat) (ev : Nat -> Int) (r : Except Int Rat) (w : World) (hp : Polys w g np ev) (hn : np <= 100) (hc : np <= c) (hev : ∀ k, k < np -> ev k = 0) (hF : F = 74 \/ F = 94) (HC : Hid (∀ W : World, Below w.heap.size w W -> Calls Tryz.prog F caps W (OutW r W))) :
 Calls Tryz.prog 73 #[.func (.func F) #[] caps, .slice (some ⟨g, 0, none⟩) np c] w (AttW r w) := by
 have hmf : ∀ (fn : Fn) (first cap : Array Value) (w : World), (Instr.makeFunc fn first cap).run Tryz.prog w = .ok (.func fn first cap) w := fun _ _ _ _ => rfl
 have H0 := hI (show AtWR w g np ev ((w.alloc (.cells #[.bool false, .slice none 0 0, .bool false, .slice none 0 0] 27)).alloc (.cells #[.int .i64 0] 38)) from ⟨(hp.on (below_new _ _)).on (below_new _ _), ((Mem.nil w).newNil _ rfl).newCel (noU1 0) (w.heap.size + 1) (by simp)⟩)
 have HEV := hI hev
 have HF2 := hI hF
 clear hp hev hF
 go_enter_defers Tryz.func73, Tryz.ntmps73
 go_wp2_with fail
 go_loopw [11] (fun v wr => ∃ k : Nat, v = .int .i64 k /\ k <= np /\ Hid (AtWR w g np ev wr)) (fun v _ => np - (intOf v).toNat)
 case atStart => exact ⟨0, rfl, Nat.zero_le _, H0⟩
 case round =>
  obtain ⟨k, rfl, hk, HR⟩ := hrel
  clear H0
  by_cases hlt : k < np
  . obtain ⟨A, n, c1, L, x0, hp, hn1, he⟩ := HR.out.1.at_ hlt
    have HP := hI hp
    have C := ucheck_any A n c1 L wr hp hn1
    rw [he, HEV.out k hlt] at C
    have HC2 := hI C
    clear C hp he
    go_wp2_with fail
    refine HC2.out.mono ?_
    rintro e w1 ⟨rfl, hb⟩
    have HR2 := hI (show AtWR w g np ev w1 from ⟨HR.out.1.on hb, HR.out.2.on hb⟩)
    clear hb x0 HP HC2
    go_wp2
    go_roundw
    case rel => exact ⟨k + 1, by go_num, by omega, HR2⟩
    case measure => simp [intOf]; omega
  . have M := hI HR.out.2
    have CC := HC.out wr HR.out.2.bel
    rcases HF2.out with rfl | rfl
    all_goals
     rcases r with er | x
     . go_wp2_with fail
       refine CC.mono ?_
       rintro e w1 ⟨rfl, hb⟩
       have M1 := hI (M.out.on hb)
       clear hb
       go_wp2
       refine leaves_cons (f := 128) (args := #[.pointer (some ⟨w.heap.size + 1, 0, none⟩)]) (by simp) (by simp [go_sem]) ?_
       refine (catchW_some (w.heap.size + 1) 0 er [] w1 (M1.out.cel 0 rfl).1).mono ?_
       rintro e u' w'' ⟨rfl, rfl, rfl⟩
       have M2 := hI ((M1.out.newCel (t := 109) (noU1 er) _ rfl).putCel 1 rfl 0 (by decide) (u := .int .i64 er) (fun x e => by cases e))
       have j0 := Blk.cell (M2.out.cel 1 rfl).1 0
       simp at j0
       have j1 := (M2.out.box 2 rfl).cs
       obtain ⟨j1, j2, j3, j4⟩ := j1
       simp only [RVal.nil] at j1 j2 j3 j4
       simp [Leaves, settle, results, Tryz.results73, go_sem, j0, j1, j2, j3, j4]
       exact ⟨rfl, M2.out.bel⟩
     . go_wp2_with fail
       refine CC.mono ?_
       rintro e w1 ⟨q, rfl, hq, hv, hb⟩
       have M1 := hI ((M.out.on hb).addRat hq)
       have HV := hI hv
       clear hq hv hb
       have c0 := (M1.out.cel 1 rfl).1.cell 0
       have f0 := (M1.out.cel 1 rfl).1.frozen 0
       simp only [List.getElem?_toArray, List.getElem?_cons_zero] at c0
       obtain ⟨d0, d1, d2, d3⟩ := (M1.out.box 2 rfl).cs
       obtain ⟨g0, g1, g2, g3⟩ := (M1.out.box 2 rfl).fs
       go_wp2
       clear c0 f0 d0 d1 d2 d3 g0 g1 g2 g3
       generalize hU : World.setCell (World.setCell (World.setCell (World.setCell (World.setCell w1 _ _) _ _) _ _) _ _) _ _ = U
       have M2 : Hid (Mem w U _) := hI (hU ▸ ((M1.out.put 2 rfl (M1.out.rat 0 rfl)).putCel 1 rfl 0 (by decide) (u := .int .i64 0) (fun x e => by cases e)))
       clear hU
       refine leaves_cons (f := 128) (args := #[.pointer (some ⟨w.heap.size + 1, 0, none⟩)]) (by simp) (by simp [go_sem]) ?_
       refine (catchW_idle ⟨w.heap.size + 1, 0, none⟩ U).mono ?_
       rintro e u' w'' ⟨rfl, rfl, rfl⟩
       have j0 := Blk.cell (M2.out.cel 1 rfl).1 0
       simp at j0
       obtain ⟨j1, j2, j3, j4⟩ := (M2.out.box 2 rfl).cs
       simp [Leaves, settle, results, Tryz.results73, go_sem, j0, j1, j2, j3, j4]
       exact ⟨q, rfl, M2.out.rat 0 rfl, HV.out, M2.out.bel⟩
def AtDR (w : World) (g np : Nat) (ev : Nat -> Int) (wr : World) : Prop := Polys wr g np ev /\ Mem w wr [.cel (w.heap.size + 1) 38 #[.int .i64 0], .cel w.heap.size 84 #[.slice none 0 0, .slice none 0 0]]
theorem attD_any (F : FuncId) (caps : Array Value) (g np c : Nat) (ev : Nat -> Int) (r : Except Int (List Rat × List Rat)) (w : World) (hp : Polys w g np ev) (hn : np <= 100) (hc : np <= c) (hev : ∀ k, k < np -> ev k = 0) (hF : F = 80) (HC : Hid (∀ W : World, Below w.heap.size w W -> Calls Tryz.prog F caps W (OutD r W))) :
 Calls Tryz.prog 79 #[.func (.func F) #[] caps, .slice (some ⟨g, 0, none⟩) np c] w (AttD r w) := by
 have hmf : ∀ (fn : Fn) (first cap : Array Value) (w : World), (Instr.makeFunc fn first cap).run Tryz.prog w = .ok (.func fn first cap) w := fun _ _ _ _ => rfl
 have H0 := hI (show AtDR w g np ev ((w.alloc (.cells #[.slice none 0 0, .slice none 0 0] 84)).alloc (.cells #[.int .i64 0] 38)) from ⟨(hp.on (below_new _ _)).on (below_new _ _), ((Mem.nil w).newCel (t := 84) noU2s _ rfl).newCel (noU1 0) (w.heap.size + 1) (by simp)⟩)
 have HEV := hI hev
 have HF2 := hI hF
 clear hp hev hF
 go_enter_defers Tryz.func79, Tryz.ntmps79
 go_wp2_with fail
 go_loopw [11] (fun v wr => ∃ k : Nat, v = .int .i64 k /\ k <= np /\ Hid (AtDR w g np ev wr)) (fun v _ => np - (intOf v).toNat)
 case atStart => exact ⟨0, rfl, Nat.zero_le _, H0⟩
 case round =>
  obtain ⟨k, rfl, hk, HR⟩ := hrel
  clear H0
  by_cases hlt : k < np
  . obtain ⟨A, n, c1, L, x0, hp, hn1, he⟩ := HR.out.1.at_ hlt
    have HP := hI hp
    have C := ucheck_any A n c1 L wr hp hn1
    rw [he, HEV.out k hlt] at C
    have HC2 := hI C
    clear C hp he
    go_wp2_with fail
    refine HC2.out.mono ?_
    rintro e w1 ⟨rfl, hb⟩
    have HR2 := hI (show AtDR w g np ev w1 from ⟨HR.out.1.on hb, HR.out.2.on hb⟩)
    clear hb x0 HP HC2
    go_wp2
    go_roundw
    case rel => exact ⟨k + 1, by go_num, by omega, HR2⟩
    case measure => simp [intOf]; omega
  . have M := hI HR.out.2
    have CC := HC.out wr HR.out.2.bel
    rcases HF2.out with rfl
    all_goals
     rcases r with er | d
     . go_wp2_with fail
       refine CC.mono ?_
       rintro e w1 ⟨rfl, hb⟩
       have M1 := hI (M.out.on hb)
       clear hb
       go_wp2
       refine leaves_cons (f := 130) (args := #[.pointer (some ⟨w.heap.size + 1, 0, none⟩)]) (by simp) (by simp [go_sem]) ?_
       refine (catchD_some (w.heap.size + 1) 0 er [] w1 (M1.out.cel 0 rfl).1).mono ?_
       rintro e u' w'' ⟨rfl, rfl, rfl⟩
       have M2 := hI ((M1.out.newCel (t := 109) (noU1 er) _ rfl).putCel 1 rfl 0 (by decide) (u := .int .i64 er) (fun x e => by cases e))
       have j0 := Blk.cell (M2.out.cel 1 rfl).1 0
       simp at j0
       have j1 := Blk.cell (M2.out.cel 2 rfl).1 0
       have j2 := Blk.cell (M2.out.cel 2 rfl).1 1
       simp at j1 j2
       simp [Leaves, settle, results, Tryz.results79, go_sem, j0, j1, j2]
       exact ⟨rfl, M2.out.bel⟩
     . go_wp2_with fail
       refine CC.mono ?_
       rintro e w1 ⟨A1, n1, c1, L1, A2, n2, c2, L2, rfl, hp, hv, hf, hp2, hv2, hf2, hb⟩
       have M0 := M.out.addPol hb hp hf
       have M1 := hI (show Mem w w1 (.pol A2 n2 c2 L2 :: .pol A1 n1 c1 L1 :: _) from M0.cons (x := .pol A2 n2 c2 L2) hp2 rfl fun y k r e _ ad hA => by
        rcases List.mem_cons.1 k with rfl | k
        . cases e
        . have := (M.out.all y k).lt e; have := hf2 ad hA; omega)
       have HV := hI (And.intro (And.intro hv (show ∀ ad, A1 = some ad -> w.heap.size <= ad.block from fun ad e => Nat.le_trans HR.out.2.bel.size (hf ad e))) (And.intro hv2 (show ∀ ad, A2 = some ad -> w.heap.size <= ad.block from fun ad e => Nat.le_trans HR.out.2.bel.size (hf2 ad e))))
       clear hp hv hf hp2 hv2 hf2 hb M0
       have c0 := (M1.out.cel 2 rfl).1.cell 0
       have f0 := (M1.out.cel 2 rfl).1.frozen 0
       have d0 := (M1.out.cel 3 rfl).1.cell 0
       have d1 := (M1.out.cel 3 rfl).1.cell 1
       have g0 := (M1.out.cel 3 rfl).1.frozen 0
       have g1 := (M1.out.cel 3 rfl).1.frozen 1
       simp only [List.getElem?_toArray, List.getElem?_cons_zero, List.getElem?_cons_succ] at c0 d0 d1
       go_wp2
       clear c0 f0 d0 d1 g0 g1
       generalize hU : World.setCell (World.setCell (World.setCell w1 _ _) _ _) _ _ = U
       have M2 : Hid (Mem w U _) := hI (hU ▸ (((M1.out.putCel 3 rfl 0 (by decide) (ns A1 n1 c1)).putCel 3 rfl 1 (by simp) (ns A2 n2 c2)).putCel 2 rfl 0 (by decide) (u := .int .i64 0) (fun x e => by cases e)))
       clear hU
       refine leaves_cons (f := 130) (args := #[.pointer (some ⟨w.heap.size + 1, 0, none⟩)]) (by simp) (by simp [go_sem]) ?_
       refine (catchD_idle ⟨w.heap.size + 1, 0, none⟩ U).mono ?_
       rintro e u' w'' ⟨rfl, rfl, rfl⟩
       have j0 := Blk.cell (M2.out.cel 2 rfl).1 0
       have j1 := Blk.cell (M2.out.cel 3 rfl).1 0
       have j2 := Blk.cell (M2.out.cel 3 rfl).1 1
       simp at j0 j1 j2
       simp [Leaves, settle, results, Tryz.results79, go_sem, j0, j1, j2]
       exact ⟨A1, n1, c1, L1, A2, n2, c2, L2, rfl, M2.out.pol 1 rfl, HV.out.1.1, HV.out.1.2, M2.out.pol 0 rfl, HV.out.2.1, HV.out.2.2, M2.out.bel⟩
def AtTR (w : World) (g np : Nat) (ev : Nat -> Int) (wr : World) : Prop := Polys wr g np ev /\ Mem w wr [.cel w.heap.size 38 #[.int .i64 0]]
theorem attT_any (F : FuncId) (caps : Array Value) (g np c : Nat) (ev : Nat -> Int) (s : ByteArray) (w : World) (hp : Polys w g np ev) (hn : np <= 100) (hc : np <= c) (hev : ∀ k, k < np -> ev k = 0) (hF : F = 103) (HC : Hid (∀ W : World, Below w.heap.size w W -> Calls Tryz.prog F caps W (RetSt s W))) :
 Calls Tryz.prog 102 #[.func (.func F) #[] caps, .slice (some ⟨g, 0, none⟩) np c] w (AttT s w) := by
 have hmf : ∀ (fn : Fn) (first cap : Array Value) (w : World), (Instr.makeFunc fn first cap).run Tryz.prog w = .ok (.func fn first cap) w := fun _ _ _ _ => rfl
 have H0 := hI (show AtTR w g np ev (w.alloc (.cells #[.int .i64 0] 38)) from ⟨hp.on (below_new _ _), (Mem.nil w).newCel (noU1 0) _ rfl⟩)
 have HEV := hI hev
 have HF2 := hI hF
 clear hp hev hF
 go_enter_defers Tryz.func102, Tryz.ntmps102
 go_wp2_with fail
 go_loopw [11, 4] (fun v x wr => ∃ k : Nat, v = .int .i64 k /\ x = .string ⟨#[]⟩ /\ k <= np /\ Hid (AtTR w g np ev wr)) (fun v _ _ => np - (intOf v).toNat)
 case atStart => exact ⟨0, rfl, rfl, Nat.zero_le _, H0⟩
 case round =>
  obtain ⟨k, rfl, rfl, hk, HR⟩ := hrel
  clear H0
  by_cases hlt : k < np
  . obtain ⟨A, n, c1, L, x0, hp, hn1, he⟩ := HR.out.1.at_ hlt
    have HP := hI hp
    have C := ucheck_any A n c1 L wr hp hn1
    rw [he, HEV.out k hlt] at C
    have HC2 := hI C
    clear C hp he
    go_wp2_with fail
    refine HC2.out.mono ?_
    rintro e w1 ⟨rfl, hb⟩
    have HR2 := hI (show AtTR w g np ev w1 from ⟨HR.out.1.on hb, HR.out.2.on hb⟩)
    clear hb x0 HP HC2
    go_wp2
    go_roundw
    case rel => exact ⟨k + 1, by go_num, rfl, by omega, HR2⟩
    case measure => simp [intOf]; omega
  . have M := hI HR.out.2
    have CC := HC.out wr HR.out.2.bel
    rcases HF2.out with rfl
    all_goals
     go_wp2_with fail
     refine CC.mono ?_
     rintro e w1 ⟨rfl, hb⟩
     have M1 := hI (M.out.on hb)
     clear hb
     have c0 := (M1.out.cel 0 rfl).1.cell 0
     have f0 := (M1.out.cel 0 rfl).1.frozen 0
     simp only [List.getElem?_toArray, List.getElem?_cons_zero] at c0
     go_wp2
     clear c0 f0
     generalize hU : World.setCell w1 _ _ = U
     have M2 : Hid (Mem w U _) := hI (hU ▸ (M1.out.putCel 0 rfl 0 (by decide) (u := .int .i64 0) (fun x e => by cases e)))
     clear hU
     refine leaves_cons (f := 143) (args := #[.pointer (some ⟨w.heap.size, 0, none⟩)]) (by simp) (by simp [go_sem]) ?_
     refine (catchT_idle ⟨w.heap.size, 0, none⟩ U).mono ?_
     rintro e u' w'' ⟨rfl, rfl, rfl⟩
     have j0 := Blk.cell (M2.out.cel 0 rfl).1 0
     simp at j0
     simp [Leaves, settle, results, Tryz.results102, go_sem, j0]
     exact ⟨rfl, M2.out.bel⟩
end Go.Proofs.YtmncfbfepdbioaaGreatDoor
namespace Go.Proofs.YtmncfbfepdbioaaGreatDoor
open Go.RowKit
theorem noUs1 (A : Option Addr) (n c : Nat) : NoU #[.slice A n c] := by
 intro i v hv x e
 subst e
 rw [List.getElem?_toArray] at hv
 have := List.mem_of_getElem? hv
 simp at this
theorem noUs2 (A : Option Addr) (n c : Nat) (A' : Option Addr) (n' c' : Nat) : NoU #[.slice A n c, .slice A' n' c'] := by
 intro i v hv x e
 subst e
 rw [List.getElem?_toArray] at hv
 have := List.mem_of_getElem? hv
 simp at this
theorem polys1 {w : World} {g : Nat} {A : Option Addr} {n c : Nat} {L : List RVal} (hb : Blk w g 22 #[.slice A n c]) (h : PSl w A n c L) (hn : n <= 100000) : Polys w g 1 (fun _ => chkE L) :=
 ⟨_, hb, rfl, fun k hk => ⟨A, n, c, L, by rw [show k = 0 by omega]; rfl, h, hn, rfl⟩⟩
theorem polys2 {w : World} {g : Nat} {A : Option Addr} {n c : Nat} {L : List RVal} {A' : Option Addr} {n' c' : Nat} {L' : List RVal} (hb : Blk w g 22 #[.slice A n c, .slice A' n' c']) (h : PSl w A n c L) (h' : PSl w A' n' c' L') (hn : n <= 100000) (hn' : n' <= 100000) : Polys w g 2 (fun k => if k = 0 then chkE L else chkE L') :=
 ⟨_, hb, rfl, fun k hk => by
  by_cases h0 : k = 0
  . subst h0; exact ⟨A, n, c, L, rfl, h, hn, rfl⟩
  . rw [show k = 1 by omega]; exact ⟨A', n', c', L', rfl, h', hn', rfl⟩⟩
def PV (w : World) (A : Option Addr) (n c : Nat) (l : List Rat) : Prop := ∃ L, PSl w A n c L /\ Vs L l
theorem PV.len {w : World} {A : Option Addr} {n c : Nat} {l : List Rat} (h : PV w A n c l) : n = l.length := by obtain ⟨L, h1, h2⟩ := h; rw [<- h2.len, h1.len]
theorem PV.on {w w' : World} {A : Option Addr} {n c : Nat} {l : List Rat} (h : PV w A n c l) (hb : Below w.heap.size w w') : PV w' A n c l := by obtain ⟨L, h1, h2⟩ := h; exact ⟨L, h1.on hb, h2⟩
def AttV (r : Except Int (List Rat)) (w : World) (e : Ending) (w' : World) : Prop := match r with
 | .ok l => ∃ (A : Option Addr) (n c : Nat), e = .returned (.tuple #[.slice A n c, .int .i64 0]) /\ PV w' A n c l /\ Below w.heap.size w w'
 | .error er => e = .returned (.tuple #[.slice none 0 0, .int .i64 er]) /\ Below w.heap.size w w'
theorem cl_Mul (p p' : Nat) (A : Option Addr) (n c : Nat) (L : List RVal) (a : List Rat) (A' : Option Addr) (n' c' : Nat) (L' : List RVal) (b : List Rat) (w : World) (hb : Blk w p 22 #[.slice A n c]) (hb' : Blk w p' 22 #[.slice A' n' c']) (h : PSl w A n c L) (hv : Vs L a) (hn : n <= 1000) (ta : Tr a) (h' : PSl w A' n' c' L') (hv' : Vs L' b) (hn' : n' <= 1000) (tb : Tr b) :
 Calls Tryz.prog 65 #[.pointer (some ⟨p, 0, none⟩), .pointer (some ⟨p', 0, none⟩)] w (OutP (pmulO a b) w) := by
 have C := umul_any A n c L a A' n' c' L' b w h hv h' hv' (by omega) (by omega)
 have x0 := Blk.cell hb 0
 have x1 := Blk.cell hb' 0
 simp only [List.getElem?_toArray, List.getElem?_cons_zero] at x0 x1
 have HC := hI C
 generalize pmulO a b = r at *
 clear C hb h hv ta hb' h' hv' tb
 go_enter Tryz.func65, Tryz.ntmps65
 go_wp2_with fail
 have C := HC.out
 rcases r with er | l
 . refine C.mono ?_
   clear C
   rintro e wE ⟨rfl, hb⟩
   have HB := hI hb
   clear hb
   go_wp2
   exact ⟨rfl, rfl, HB.out⟩
 . refine C.mono ?_
   clear C
   rintro e w1 ⟨A3, n3, c3, L3, rfl, hp, hv, hf, hb⟩
   have HP := hI (And.intro hp (And.intro hv (And.intro hf hb)))
   clear hp hv hf hb
   go_wp2
   go_ret
   exact ⟨A3, n3, c3, L3, rfl, HP.out.1, HP.out.2.1, HP.out.2.2.1, HP.out.2.2.2⟩
theorem cl_GCD (p p' : Nat) (A : Option Addr) (n c : Nat) (L : List RVal) (a : List Rat) (A' : Option Addr) (n' c' : Nat) (L' : List RVal) (b : List Rat) (w : World) (hb : Blk w p 22 #[.slice A n c]) (hb' : Blk w p' 22 #[.slice A' n' c']) (h : PSl w A n c L) (hv : Vs L a) (hn : n <= 1000) (ta : Tr a) (h' : PSl w A' n' c' L') (hv' : Vs L' b) (hn' : n' <= 1000) (tb : Tr b) :
 Calls Tryz.prog 82 #[.pointer (some ⟨p, 0, none⟩), .pointer (some ⟨p', 0, none⟩)] w (OutP (gcdO b.length a b) w) := by
 have C := ugcd_any A n c L a A' n' c' L' b b.length w h hv h' hv' (by omega) (by omega) ta tb (Nat.le_refl _)
 have x0 := Blk.cell hb 0
 have x1 := Blk.cell hb' 0
 simp only [List.getElem?_toArray, List.getElem?_cons_zero] at x0 x1
 have HC := hI C
 generalize gcdO b.length a b = r at *
 clear C hb h hv ta hb' h' hv' tb
 go_enter Tryz.func82, Tryz.ntmps82
 go_wp2_with fail
 have C := HC.out
 rcases r with er | l
 . refine C.mono ?_
   clear C
   rintro e wE ⟨rfl, hb⟩
   have HB := hI hb
   clear hb
   go_wp2
   exact ⟨rfl, rfl, HB.out⟩
 . refine C.mono ?_
   clear C
   rintro e w1 ⟨A3, n3, c3, L3, rfl, hp, hv, hf, hb⟩
   have HP := hI (And.intro hp (And.intro hv (And.intro hf hb)))
   clear hp hv hf hb
   go_wp2
   go_ret
   exact ⟨A3, n3, c3, L3, rfl, HP.out.1, HP.out.2.1, HP.out.2.2.1, HP.out.2.2.2⟩
theorem Mul_any (A : Option Addr) (n c : Nat) (a : List Rat) (A' : Option Addr) (n' c' : Nat) (b : List Rat) (w : World) (h : PV w A n c a) (h' : PV w A' n' c' b) (ta : Tr a) (tb : Tr b) (la : a.length <= 65) (lb : b.length <= 65) :
 Calls Tryz.prog 24 #[.slice A n c, .slice A' n' c'] w (AttV (pmulO a b) w) := by
 have hmf : ∀ (fn : Fn) (first cap : Array Value) (w : World), (Instr.makeFunc fn first cap).run Tryz.prog w = .ok (.func fn first cap) w := fun _ _ _ _ => rfl
 obtain ⟨L, h, hv⟩ := h
 obtain ⟨L', h', hv'⟩ := h'
 have HCK := hI (And.intro (chk_ok h hv ta la) (chk_ok h' hv' tb lb))
 have HN := hI (show n <= 1000 /\ n' <= 1000 /\ n <= 65 /\ n' <= 65 from ⟨by rw [<- h.len, hv.len]; omega, by rw [<- h'.len, hv'.len]; omega, by rw [<- h.len, hv.len]; omega, by rw [<- h'.len, hv'.len]; omega⟩)
 have M := hI ((((((Mem.nil w).old (x := .pol A n c L) (by simp) h rfl).old (x := .pol A' n' c' L') (by simp [Rs.own]) h' rfl).newCel (t := 22) (noUs1 A n c) _ rfl).newCel (t := 22) (noUs1 A' n' c') (w.heap.size + 1) (by simp)).newCel (t := 22) (noUs2 A n c A' n' c') (w.heap.size + 1 + 1) (by simp))
 have HV := hI (And.intro hv hv')
 have HT := hI (And.intro ta tb)
 clear h hv ta h' hv' tb
 go_enter Tryz.func24, Tryz.ntmps24
 go_wp2_with fail
 generalize hW : World.alloc (World.alloc (World.alloc w _) _) _ = V at *
 clear hW
 have C := attP_any 65 #[.pointer (some ⟨w.heap.size, 0, none⟩), .pointer (some ⟨w.heap.size + 1, 0, none⟩)] (w.heap.size + 1 + 1) 2 2 _ (pmulO a b) V (polys2 (M.out.cel 0 rfl).1 (M.out.pol 4 rfl) (M.out.pol 3 rfl) (by have := HN.out; omega) (by have := HN.out; omega)) (by decide) (Nat.le_refl _) (fun k hk => by rw [HCK.out.1, HCK.out.2]; split <;> rfl) (Or.inl rfl) (hI fun W hb => cl_Mul w.heap.size (w.heap.size + 1) A n c L a A' n' c' L' b W ((M.out.on hb).cel 2 rfl).1 ((M.out.on hb).cel 1 rfl).1 ((M.out.on hb).pol 4 rfl) HV.out.1 HN.out.1 HT.out.1 ((M.out.on hb).pol 3 rfl) HV.out.2 HN.out.2.1 HT.out.2)
 have HC := hI C
 generalize pmulO a b = r at *
 clear C
 rcases r with er | l
 . refine HC.out.mono ?_
   rintro e w1 ⟨rfl, hb⟩
   have HB := hI (M.out.on hb).bel
   clear hb
   go_wp2
   go_ret2
   exact ⟨rfl, HB.out⟩
 . refine HC.out.mono ?_
   rintro e w1 ⟨A3, n3, c3, L3, rfl, hp, hv, hf, hb⟩
   have HP := hI (show PV w1 A3 n3 c3 l from ⟨L3, hp, hv⟩)
   have HB := hI (M.out.on hb).bel
   clear hp hv hf hb
   go_wp2
   go_ret2
   exact ⟨A3, n3, c3, rfl, HP.out, HB.out⟩
theorem GCD_any (A : Option Addr) (n c : Nat) (a : List Rat) (A' : Option Addr) (n' c' : Nat) (b : List Rat) (w : World) (h : PV w A n c a) (h' : PV w A' n' c' b) (ta : Tr a) (tb : Tr b) (la : a.length <= 65) (lb : b.length <= 65) :
 Calls Tryz.prog 34 #[.slice A n c, .slice A' n' c'] w (AttV (gcdO b.length a b) w) := by
 have hmf : ∀ (fn : Fn) (first cap : Array Value) (w : World), (Instr.makeFunc fn first cap).run Tryz.prog w = .ok (.func fn first cap) w := fun _ _ _ _ => rfl
 obtain ⟨L, h, hv⟩ := h
 obtain ⟨L', h', hv'⟩ := h'
 have HCK := hI (And.intro (chk_ok h hv ta la) (chk_ok h' hv' tb lb))
 have HN := hI (show n <= 1000 /\ n' <= 1000 /\ n <= 65 /\ n' <= 65 from ⟨by rw [<- h.len, hv.len]; omega, by rw [<- h'.len, hv'.len]; omega, by rw [<- h.len, hv.len]; omega, by rw [<- h'.len, hv'.len]; omega⟩)
 have M := hI ((((((Mem.nil w).old (x := .pol A n c L) (by simp) h rfl).old (x := .pol A' n' c' L') (by simp [Rs.own]) h' rfl).newCel (t := 22) (noUs1 A n c) _ rfl).newCel (t := 22) (noUs1 A' n' c') (w.heap.size + 1) (by simp)).newCel (t := 22) (noUs2 A n c A' n' c') (w.heap.size + 1 + 1) (by simp))
 have HV := hI (And.intro hv hv')
 have HT := hI (And.intro ta tb)
 clear h hv ta h' hv' tb
 go_enter Tryz.func34, Tryz.ntmps34
 go_wp2_with fail
 generalize hW : World.alloc (World.alloc (World.alloc w _) _) _ = V at *
 clear hW
 have C := attP_any 82 #[.pointer (some ⟨w.heap.size, 0, none⟩), .pointer (some ⟨w.heap.size + 1, 0, none⟩)] (w.heap.size + 1 + 1) 2 2 _ (gcdO b.length a b) V (polys2 (M.out.cel 0 rfl).1 (M.out.pol 4 rfl) (M.out.pol 3 rfl) (by have := HN.out; omega) (by have := HN.out; omega)) (by decide) (Nat.le_refl _) (fun k hk => by rw [HCK.out.1, HCK.out.2]; split <;> rfl) (Or.inr (Or.inr (Or.inr (Or.inr (Or.inl rfl))))) (hI fun W hb => cl_GCD w.heap.size (w.heap.size + 1) A n c L a A' n' c' L' b W ((M.out.on hb).cel 2 rfl).1 ((M.out.on hb).cel 1 rfl).1 ((M.out.on hb).pol 4 rfl) HV.out.1 HN.out.1 HT.out.1 ((M.out.on hb).pol 3 rfl) HV.out.2 HN.out.2.1 HT.out.2)
 have HC := hI C
 generalize gcdO b.length a b = r at *
 clear C
 rcases r with er | l
 . refine HC.out.mono ?_
   rintro e w1 ⟨rfl, hb⟩
   have HB := hI (M.out.on hb).bel
   clear hb
   go_wp2
   go_ret2
   exact ⟨rfl, HB.out⟩
 . refine HC.out.mono ?_
   rintro e w1 ⟨A3, n3, c3, L3, rfl, hp, hv, hf, hb⟩
   have HP := hI (show PV w1 A3 n3 c3 l from ⟨L3, hp, hv⟩)
   have HB := hI (M.out.on hb).bel
   clear hp hv hf hb
   go_wp2
   go_ret2
   exact ⟨A3, n3, c3, rfl, HP.out, HB.out⟩
end Go.Proofs.YtmncfbfepdbioaaGreatDoor
namespace Go.Proofs.YtmncfbfepdbioaaGreatDoor
open Go.RowKit
theorem PV.drewN {w : World} {A : Option Addr} {n c : Nat} {l : List Rat} (h : PV w A n c l) (k : Nat) : PV (w.drewN k) A n c l := by obtain ⟨L, h1, h2⟩ := h; exact ⟨L, ⟨h1.cap, h1.reach, h1.capr, h1.nil_, h1.reads.drewN k, fun q m => (h1.ins q m).drewN k⟩, h2⟩
def AttN (r : Except Int Rat) (w : World) (e : Ending) (w' : World) : Prop := match r with
 | .ok x => ∃ q : RVal, e = .returned (.tuple #[.agg #[.bool q.g, .slice q.A q.n q.c, .bool q.gd, .slice q.Ad q.nd q.cd], .int .i64 0]) /\ q.In w' /\ q.v = some x /\ Below w.heap.size w w'
 | .error er => e = .returned (.tuple #[.agg #[.bool false, .slice none 0 0, .bool false, .slice none 0 0], .int .i64 er]) /\ Below w.heap.size w w'
def AttV2 (r : Except Int (List Rat × List Rat)) (w : World) (e : Ending) (w' : World) : Prop := match r with
 | .ok d => ∃ (A : Option Addr) (n c : Nat) (A' : Option Addr) (n' c' : Nat), e = .returned (.tuple #[.slice A n c, .slice A' n' c', .int .i64 0]) /\ PV w' A n c d.1 /\ PV w' A' n' c' d.2 /\ Below w.heap.size w w'
 | .error er => e = .returned (.tuple #[.slice none 0 0, .slice none 0 0, .int .i64 er]) /\ Below w.heap.size w w'
theorem cl_Resultant (p p' : Nat) (A : Option Addr) (n c : Nat) (L : List RVal) (a : List Rat) (A' : Option Addr) (n' c' : Nat) (L' : List RVal) (b : List Rat) (w : World) (hb : Blk w p 22 #[.slice A n c]) (hb' : Blk w p' 22 #[.slice A' n' c']) (h : PSl w A n c L) (hv : Vs L a) (hn : n <= 1000) (ta : Tr a) (h' : PSl w A' n' c' L') (hv' : Vs L' b) (hn' : n' <= 1000) (tb : Tr b) :
 Calls Tryz.prog 94 #[.pointer (some ⟨p, 0, none⟩), .pointer (some ⟨p', 0, none⟩)] w (OutW (resO (resN a b) a b) w) := by
 have M := hI ((((((Mem.nil w).old (x := .pol A n c L) (by simp) h rfl).old (x := .pol A' n' c' L') (by simp [Rs.own]) h' rfl)).newNil _ rfl))
 have C := ures_any (resN a b) A n c L a A' n' c' L' b (w.alloc (.cells #[.bool false, .slice none 0 0, .bool false, .slice none 0 0] 27)) (M.out.pol 2 rfl) hv (M.out.pol 1 rfl) hv' hn hn' ta tb (Nat.le_refl _)
 have x0 := Blk.cell (Blk.alloc hb (.cells #[.bool false, .slice none 0 0, .bool false, .slice none 0 0] 27)) 0
 have x1 := Blk.cell (Blk.alloc hb' (.cells #[.bool false, .slice none 0 0, .bool false, .slice none 0 0] 27)) 0
 simp only [List.getElem?_toArray, List.getElem?_cons_zero] at x0 x1
 have HC := hI C
 generalize resO (resN a b) a b = r at *
 clear C hb h hv ta hb' h' hv' tb
 go_enter Tryz.func94, Tryz.ntmps94
 go_wp2_with fail
 clear x0 x1
 generalize hW : World.alloc w _ = V at *
 clear hW
 have C := HC.out
 rcases r with er | l
 . refine C.mono ?_
   clear C
   rintro e wE ⟨rfl, hb⟩
   have HB := hI (M.out.on hb).bel
   clear hb
   go_wp2
   exact ⟨rfl, rfl, HB.out⟩
 . refine C.mono ?_
   clear C
   rintro e w1 ⟨q, rfl, hq, hv, hb⟩
   have M1 := hI ((M.out.on hb).addRat hq)
   have HV := hI hv
   clear hq hv hb
   obtain ⟨c0, c1, c2, c3⟩ := (M1.out.box 1 rfl).cs
   obtain ⟨f0, f1, f2, f3⟩ := (M1.out.box 1 rfl).fs
   go_wp2
   clear c0 c1 c2 c3 f0 f1 f2 f3
   generalize hU : World.setCell (World.setCell (World.setCell (World.setCell w1 _ _) _ _) _ _) _ _ = U
   have M9 := hI (M1.out.putU 1 rfl (M1.out.rat 0 rfl) hU)
   clear hU
   obtain ⟨j0, j1, j2, j3⟩ := (M9.out.box 1 rfl).cs
   refine bodyPost_ret (v := .agg #[.bool q.g, .slice q.A q.n q.c, .bool q.gd, .slice q.Ad q.nd q.cd]) (by simp [results, Tryz.results94, go_sem, j0, j1, j2, j3]) rfl ?_
   exact ⟨q, rfl, (M9.out.box 1 rfl).sl, HV.out, M9.out.bel⟩
theorem Resultant_any (A : Option Addr) (n c : Nat) (a : List Rat) (A' : Option Addr) (n' c' : Nat) (b : List Rat) (w : World) (h : PV w A n c a) (h' : PV w A' n' c' b) (ta : Tr a) (tb : Tr b) (la : a.length <= 65) (lb : b.length <= 65) :
 Calls Tryz.prog 43 #[.slice A n c, .slice A' n' c'] w (AttN (resO (resN a b) a b) w) := by
 have hmf : ∀ (fn : Fn) (first cap : Array Value) (w : World), (Instr.makeFunc fn first cap).run Tryz.prog w = .ok (.func fn first cap) w := fun _ _ _ _ => rfl
 obtain ⟨L, h, hv⟩ := h
 obtain ⟨L', h', hv'⟩ := h'
 have HCK := hI (And.intro (chk_ok h hv ta la) (chk_ok h' hv' tb lb))
 have HN := hI (show n <= 1000 /\ n' <= 1000 /\ n <= 65 /\ n' <= 65 from ⟨by rw [<- h.len, hv.len]; omega, by rw [<- h'.len, hv'.len]; omega, by rw [<- h.len, hv.len]; omega, by rw [<- h'.len, hv'.len]; omega⟩)
 have HV := hI (And.intro hv hv')
 have HT := hI (And.intro ta tb)
 have M := hI (((((((Mem.nil w).old (x := .pol A n c L) (by simp) h rfl).old (x := .pol A' n' c' L') (by simp [Rs.own]) h' rfl).newCel (t := 22) (noUs1 A n c) _ rfl).newCel (t := 22) (noUs1 A' n' c') (w.heap.size + 1) (by simp)).newNil (w.heap.size + 1 + 1) (by simp)).newCel (t := 22) (noUs2 A n c A' n' c') (w.heap.size + 1 + 1 + 1) (by simp))
 clear h hv ta h' hv' tb
 go_enter Tryz.func43, Tryz.ntmps43
 go_wp2_with fail
 generalize hW : World.alloc (World.alloc (World.alloc (World.alloc w _) _) _) _ = V at *
 clear hW
 have C := attW_any 94 #[.pointer (some ⟨w.heap.size, 0, none⟩), .pointer (some ⟨w.heap.size + 1, 0, none⟩)] (w.heap.size + 1 + 1 + 1) 2 2 _ (resO (resN a b) a b) V (polys2 (M.out.cel 0 rfl).1 (M.out.pol 5 rfl) (M.out.pol 4 rfl) (by have := HN.out; omega) (by have := HN.out; omega)) (by decide) (Nat.le_refl _) (fun k hk => by rw [HCK.out.1, HCK.out.2]; split <;> rfl) (Or.inr rfl) (hI fun W hb => cl_Resultant w.heap.size (w.heap.size + 1) A n c L a A' n' c' L' b W ((M.out.on hb).cel 3 rfl).1 ((M.out.on hb).cel 2 rfl).1 ((M.out.on hb).pol 5 rfl) HV.out.1 HN.out.1 HT.out.1 ((M.out.on hb).pol 4 rfl) HV.out.2 HN.out.2.1 HT.out.2)
 have HC := hI C
 generalize resO (resN a b) a b = r at *
 clear C
 rcases r with er | l
 . refine HC.out.mono ?_
   rintro e w1 ⟨rfl, hb⟩
   have M1 := hI (M.out.on hb)
   clear hb
   obtain ⟨c0, c1, c2, c3⟩ := (M1.out.box 1 rfl).cs
   obtain ⟨f0, f1, f2, f3⟩ := (M1.out.box 1 rfl).fs
   go_wp2
   clear c0 c1 c2 c3 f0 f1 f2 f3
   generalize hU : World.setCell (World.setCell (World.setCell (World.setCell w1 _ _) _ _) _ _) _ _ = U
   have M9 := hI (M1.out.putU (q := RVal.nil) 1 rfl (RVal.nil_in _) hU)
   clear hU
   obtain ⟨j0, j1, j2, j3⟩ := (M9.out.box 1 rfl).cs
   simp only [RVal.nil] at j0 j1 j2 j3
   refine bodyPost_ret (v := .tuple #[.agg #[.bool false, .slice none 0 0, .bool false, .slice none 0 0], .int .i64 er]) (by simp [results, Tryz.results43, go_sem, j0, j1, j2, j3]) rfl ?_
   exact ⟨rfl, M9.out.bel⟩
 . refine HC.out.mono ?_
   rintro e w1 ⟨q, rfl, hq, hv, hb⟩
   have M1 := hI ((M.out.on hb).addRat hq)
   have HV1 := hI hv
   clear hq hv hb
   obtain ⟨c0, c1, c2, c3⟩ := (M1.out.box 2 rfl).cs
   obtain ⟨f0, f1, f2, f3⟩ := (M1.out.box 2 rfl).fs
   go_wp2
   clear c0 c1 c2 c3 f0 f1 f2 f3
   generalize hU : World.setCell (World.setCell (World.setCell (World.setCell w1 _ _) _ _) _ _) _ _ = U
   have M9 := hI (M1.out.putU 2 rfl (M1.out.rat 0 rfl) hU)
   clear hU
   obtain ⟨j0, j1, j2, j3⟩ := (M9.out.box 2 rfl).cs
   refine bodyPost_ret (v := .tuple #[.agg #[.bool q.g, .slice q.A q.n q.c, .bool q.gd, .slice q.Ad q.nd q.cd], .int .i64 0]) (by simp [results, Tryz.results43, go_sem, j0, j1, j2, j3]) rfl ?_
   exact ⟨q, rfl, (M9.out.box 2 rfl).sl, HV1.out, M9.out.bel⟩
theorem cl_DivMod (p p' : Nat) (A : Option Addr) (n c : Nat) (L : List RVal) (a : List Rat) (A' : Option Addr) (n' c' : Nat) (L' : List RVal) (b : List Rat) (w : World) (hb : Blk w p 22 #[.slice A n c]) (hb' : Blk w p' 22 #[.slice A' n' c']) (h : PSl w A n c L) (hv : Vs L a) (hn : n <= 1000) (ta : Tr a) (h' : PSl w A' n' c' L') (hv' : Vs L' b) (hn' : n' <= 1000) (tb : Tr b) :
 Calls Tryz.prog 80 #[.pointer (some ⟨p, 0, none⟩), .pointer (some ⟨p', 0, none⟩)] w (OutD (pdivO a b) w) := by
 have M := hI (((((Mem.nil w).old (x := .pol A n c L) (by simp) h rfl).old (x := .pol A' n' c' L') (by simp [Rs.own]) h' rfl)).newCel (t := 84) noU2s _ rfl)
 have C := udiv_any A n c L a A' n' c' L' b (w.alloc (.cells #[.slice none 0 0, .slice none 0 0] 84)) (M.out.pol 2 rfl) hv (M.out.pol 1 rfl) hv' (by omega) (by omega) tb
 have x0 := Blk.cell (Blk.alloc hb (.cells #[.slice none 0 0, .slice none 0 0] 84)) 0
 have x1 := Blk.cell (Blk.alloc hb' (.cells #[.slice none 0 0, .slice none 0 0] 84)) 0
 simp only [List.getElem?_toArray, List.getElem?_cons_zero] at x0 x1
 have HC := hI C
 generalize pdivO a b = r at *
 clear C hb h hv ta hb' h' hv' tb
 go_enter Tryz.func80, Tryz.ntmps80
 go_wp2_with fail
 clear x0 x1
 generalize hW : World.alloc w _ = V at *
 clear hW
 have C := HC.out
 rcases r with er | d
 . refine C.mono ?_
   clear C
   rintro e wE ⟨rfl, hb⟩
   have HB := hI (M.out.on hb).bel
   clear hb
   go_wp2
   exact ⟨rfl, rfl, HB.out⟩
 . refine C.mono ?_
   clear C
   rintro e w1 ⟨A1, n1, c1, L1, A2, n2, c2, L2, rfl, hp, hv, hf, hp2, hv2, hf2, hb⟩
   have M0 := M.out.addPol hb hp hf
   have M1 := hI (show Mem w w1 (.pol A2 n2 c2 L2 :: .pol A1 n1 c1 L1 :: _) from M0.cons (x := .pol A2 n2 c2 L2) hp2 rfl fun y k r e _ ad hA => by
    rcases List.mem_cons.1 k with rfl | k
    . cases e
    . have := (M.out.all y k).lt e; have := hf2 ad hA; omega)
   have HV := hI (And.intro (And.intro hv (show ∀ ad, A1 = some ad -> w.heap.size <= ad.block from fun ad e => Nat.le_trans M.out.bel.size (hf ad e))) (And.intro hv2 (show ∀ ad, A2 = some ad -> w.heap.size <= ad.block from fun ad e => Nat.le_trans M.out.bel.size (hf2 ad e))))
   clear hp hv hf hp2 hv2 hf2 hb M0
   have d0 := (M1.out.cel 2 rfl).1.cell 0
   have d1 := (M1.out.cel 2 rfl).1.cell 1
   have g0 := (M1.out.cel 2 rfl).1.frozen 0
   have g1 := (M1.out.cel 2 rfl).1.frozen 1
   simp only [List.getElem?_toArray, List.getElem?_cons_zero, List.getElem?_cons_succ] at d0 d1
   go_wp2
   clear d0 d1 g0 g1
   generalize hU : World.setCell (World.setCell w1 _ _) _ _ = U
   have M2 : Hid (Mem w U _) := hI (hU ▸ ((M1.out.putCel 2 rfl 0 (by decide) (ns A1 n1 c1)).putCel 2 rfl 1 (by simp) (ns A2 n2 c2)))
   clear hU
   have j1 := Blk.cell (M2.out.cel 2 rfl).1 0
   have j2 := Blk.cell (M2.out.cel 2 rfl).1 1
   simp at j1 j2
   refine bodyPost_ret (v := .agg #[.slice A1 n1 c1, .slice A2 n2 c2]) (by simp [results, Tryz.results80, go_sem, j1, j2]) rfl ?_
   exact ⟨A1, n1, c1, L1, A2, n2, c2, L2, rfl, M2.out.pol 1 rfl, HV.out.1.1, HV.out.1.2, M2.out.pol 0 rfl, HV.out.2.1, HV.out.2.2, M2.out.bel⟩
theorem DivMod_any (A : Option Addr) (n c : Nat) (a : List Rat) (A' : Option Addr) (n' c' : Nat) (b : List Rat) (w : World) (h : PV w A n c a) (h' : PV w A' n' c' b) (ta : Tr a) (tb : Tr b) (la : a.length <= 65) (lb : b.length <= 65) :
 Calls Tryz.prog 33 #[.slice A n c, .slice A' n' c'] w (AttV2 (pdivO a b) w) := by
 have hmf : ∀ (fn : Fn) (first cap : Array Value) (w : World), (Instr.makeFunc fn first cap).run Tryz.prog w = .ok (.func fn first cap) w := fun _ _ _ _ => rfl
 obtain ⟨L, h, hv⟩ := h
 obtain ⟨L', h', hv'⟩ := h'
 have HCK := hI (And.intro (chk_ok h hv ta la) (chk_ok h' hv' tb lb))
 have HN := hI (show n <= 1000 /\ n' <= 1000 /\ n <= 65 /\ n' <= 65 from ⟨by rw [<- h.len, hv.len]; omega, by rw [<- h'.len, hv'.len]; omega, by rw [<- h.len, hv.len]; omega, by rw [<- h'.len, hv'.len]; omega⟩)
 have HV := hI (And.intro hv hv')
 have HT := hI (And.intro ta tb)
 have M := hI ((((((Mem.nil w).old (x := .pol A n c L) (by simp) h rfl).old (x := .pol A' n' c' L') (by simp [Rs.own]) h' rfl).newCel (t := 22) (noUs1 A n c) _ rfl).newCel (t := 22) (noUs1 A' n' c') (w.heap.size + 1) (by simp)).newCel (t := 22) (noUs2 A n c A' n' c') (w.heap.size + 1 + 1) (by simp))
 clear h hv ta h' hv' tb
 go_enter Tryz.func33, Tryz.ntmps33
 go_wp2_with fail
 generalize hW : World.alloc (World.alloc (World.alloc w _) _) _ = V at *
 clear hW
 have C := attD_any 80 #[.pointer (some ⟨w.heap.size, 0, none⟩), .pointer (some ⟨w.heap.size + 1, 0, none⟩)] (w.heap.size + 1 + 1) 2 2 _ (pdivO a b) V (polys2 (M.out.cel 0 rfl).1 (M.out.pol 4 rfl) (M.out.pol 3 rfl) (by have := HN.out; omega) (by have := HN.out; omega)) (by decide) (Nat.le_refl _) (fun k hk => by rw [HCK.out.1, HCK.out.2]; split <;> rfl) rfl (hI fun W hb => cl_DivMod w.heap.size (w.heap.size + 1) A n c L a A' n' c' L' b W ((M.out.on hb).cel 2 rfl).1 ((M.out.on hb).cel 1 rfl).1 ((M.out.on hb).pol 4 rfl) HV.out.1 HN.out.1 HT.out.1 ((M.out.on hb).pol 3 rfl) HV.out.2 HN.out.2.1 HT.out.2)
 have HC := hI C
 generalize pdivO a b = r at *
 clear C
 rcases r with er | d
 . refine HC.out.mono ?_
   rintro e w1 ⟨rfl, hb⟩
   have HB := hI ((M.out.on hb).newCel (t := 84) noU2s _ rfl).bel
   clear hb
   go_wp2
   go_quiet (fail)
   go_wp2
   go_ret3
   exact ⟨rfl, ⟨HB.out.os, HB.out.tape, HB.out.output, HB.out.size, HB.out.block⟩⟩
 . refine HC.out.mono ?_
   rintro e w1 ⟨A1, n1, c1, L1, A2, n2, c2, L2, rfl, hp, hv, hf, hp2, hv2, hf2, hb⟩
   have HB := hI (((M.out.on hb).newCel (t := 84) (noUs2 A1 n1 c1 A2 n2 c2) _ rfl).bel)
   have HP := hI (And.intro (show PV w1 A1 n1 c1 d.1 from ⟨L1, hp, hv⟩) (show PV w1 A2 n2 c2 d.2 from ⟨L2, hp2, hv2⟩))
   have hn := below_new w1 (.cells #[.slice A1 n1 c1, .slice A2 n2 c2] 84)
   have HP2 := hI (And.intro (HP.out.1.on hn) (HP.out.2.on hn))
   clear hp hv hf hp2 hv2 hf2 hb hn
   go_wp2
   go_quiet (fail)
   go_wp2
   go_ret3
   exact ⟨A1, n1, c1, A2, n2, c2, rfl, HP2.out.1.drewN _, HP2.out.2.drewN _, ⟨HB.out.os, HB.out.tape, HB.out.output, HB.out.size, HB.out.block⟩⟩
end Go.Proofs.YtmncfbfepdbioaaGreatDoor
namespace Go.Proofs.YtmncfbfepdbioaaGreatDoor
open Go.RowKit
theorem Mem.drewN {w0 w : World} {l : List Rs} (h : Mem w0 w l) (k : Nat) : Mem w0 (w.drewN k) l :=
 ⟨⟨h.bel.os, h.bel.tape, h.bel.output, h.bel.size, h.bel.block⟩, fun x m => by
   have := h.all x m
   cases x with
   | box r q => exact Rb.drewN this k
   | rat q => exact RVal.In.drewN this k
   | pol A n c L =>
     have h1 : PSl w A n c L := this
     exact ⟨h1.cap, h1.reach, h1.capr, h1.nil_, h1.reads.drewN k, fun q m => (h1.ins q m).drewN k⟩
   | arr r L => exact ⟨this.1, fun q m => (this.2 q m).drewN k⟩
   | cel r t cs => exact this, h.sep, h.new⟩
def Yes (w : World) (e : Ending) (w' : World) : Prop := e = .returned (.bool true) /\ Below w.heap.size w w'
def SiR (w : World) (g : Bool) (A A' : Option Addr) (n c c' : Nat) (xs : List Nat) (wr : World) : Prop := Mem w wr [.cel (w.heap.size + 1) 25 #[.bool g, .slice A' n c'], .cel w.heap.size 25 #[.bool g, .slice A n c], .rat ⟨g, A, n, c, xs, g, A', n, c', xs⟩]
theorem sameInt_yes (g : Bool) (A A' : Option Addr) (n c c' : Nat) (xs : List Nat) (w : World) (h : Sl w w.heap.size A n c xs) (h' : Sl w w.heap.size A' n c' xs) :
 Calls Tryz.prog 84 #[.agg #[.bool g, .slice A n c], .agg #[.bool g, .slice A' n c']] w (Yes w) := by
 have hn := h.reach
 have H0 := hI (show SiR w g A A' n c c' xs _ from (((Mem.nil w).old (x := .rat ⟨g, A, n, c, xs, g, A', n, c', xs⟩) (by simp) ⟨h, h'⟩ rfl).newCel (t := 25) (noU2 g A n c) _ rfl).newCel (t := 25) (noU2 g A' n c') (w.heap.size + 1) (by simp))
 have hg : (g != g) = false := by simp
 clear h h'
 go_enter Tryz.func84, Tryz.ntmps84
 go_wp2_with fail
 go_loopw [5] (fun v wr => ∃ k : Nat, v = .int .i64 k /\ k <= n /\ Hid (SiR w g A A' n c c' xs wr)) (fun v _ => n - (intOf v).toNat)
 case atStart => exact ⟨0, rfl, Nat.zero_le _, H0⟩
 case round =>
  obtain ⟨k, rfl, hk, HR⟩ := hrel
  clear H0 hg
  have x0 := (HR.out.cel 1 rfl).1.cell 1
  have x1 := (HR.out.cel 0 rfl).1.cell 1
  simp only [List.getElem?_toArray, List.getElem?_cons_zero, List.getElem?_cons_succ] at x0 x1
  by_cases hlt : k < n
  . obtain ⟨ad, rfl, _, y0⟩ := ((HR.out.rat 2 rfl).nm).cell hlt
    obtain ⟨ad', rfl, _, y1⟩ := ((HR.out.rat 2 rfl).dn).cell hlt
    dsimp only at y0 y1
    go_wp2_with fail
    go_quiet (fail)
    clear x0 x1 y0 y1
    have HR2 := hI (show SiR w g (some ad) (some ad') n c c' xs _ from HR.out.drewN nq)
    go_wp2
    go_roundw
    case rel => exact ⟨k + 1, by go_num, by omega, HR2⟩
    case measure => simp [intOf]; omega
  . go_wp2
    go_ret
    exact ⟨rfl, HR.out.bel⟩
theorem sameRat_yes (q q' : RVal) (x : Rat) (w : World) (h : q.In w) (h' : q'.In w) (hx : q.v = some x) (hx' : q'.v = some x) : Calls Tryz.prog 35 #[.agg #[.bool q.g, .slice q.A q.n q.c, .bool q.gd, .slice q.Ad q.nd q.cd], .agg #[.bool q'.g, .slice q'.A q'.n q'.c, .bool q'.gd, .slice q'.Ad q'.nd q'.cd]] w (Yes w) := by
 have e1 := ov_same h.1 h'.1 (rv_some hx).1 (rv_some hx').1
 have e2 := ov_same h.2 h'.2 (rv_some hx).2 (rv_some hx').2
 have l1 : q.n = q'.n := by rw [<- h.1.len, <- h'.1.len, e1.2]
 have l2 : q.nd = q'.nd := by rw [<- h.2.len, <- h'.2.len, e2.2]
 obtain ⟨g, A, n, c, xs, gd, Ad, nd, cd, ys⟩ := q
 obtain ⟨g', A', n', c', xs', gd', Ad', nd', cd', ys'⟩ := q'
 dsimp only at e1 e2 l1 l2
 obtain ⟨rfl, rfl⟩ := e1
 obtain ⟨rfl, rfl⟩ := e2
 subst l1
 subst l2
 have M := hI (((((Mem.nil w).old (x := .rat ⟨g, A, n, c, xs, gd, Ad, nd, cd, ys⟩) (by simp) h rfl).old (x := .rat ⟨g, A', n, c', xs, gd, Ad', nd, cd', ys⟩) (by simp [Rs.own]) h' rfl).newBox h _ rfl).newBox (h'.on (below_new _ _)) (w.heap.size + 1) (by simp))
 clear h h' hx hx'
 go_enter Tryz.func35, Tryz.ntmps35
 go_wp2_with fail
 generalize hW : World.alloc (World.alloc w _) _ = V at *
 clear hW
 refine (sameInt_yes g A A' n c c' xs V (M.out.rat 3 rfl).nm (M.out.rat 2 rfl).nm).mono ?_
 rintro e w1 ⟨rfl, hb⟩
 have M1 := hI (M.out.on hb)
 clear hb M
 obtain ⟨x0, x1, x2, x3⟩ := (M1.out.box 1 rfl).cs
 obtain ⟨y0, y1, y2, y3⟩ := (M1.out.box 0 rfl).cs
 dsimp only at x0 x1 x2 x3 y0 y1 y2 y3
 go_wp2_with fail
 clear x0 x1 x2 x3 y0 y1 y2 y3
 refine (sameInt_yes gd Ad Ad' nd cd cd' ys w1 (M1.out.rat 3 rfl).dn (M1.out.rat 2 rfl).dn).mono ?_
 rintro e w2 ⟨rfl, hb⟩
 have HB := hI (M1.out.on hb).bel
 clear hb
 go_wp2
 go_ret
 exact ⟨rfl, HB.out⟩
theorem same_go (A : Option Addr) (n c : Nat) (L : List RVal) (A' : Option Addr) (c' : Nat) (L' : List RVal) (l : List Rat) (w : World) (h : PSl w A n c L) (hv : Vs L l) (h' : PSl w A' n c' L') (hv' : Vs L' l) (hn : n <= 100000) :
 Calls Tryz.prog 27 #[.slice A n c, .slice A' n c'] w (Yes w) := by
 have H0 := hI (show Mem w w [.pol A' n c' L', .pol A n c L] from ((Mem.nil w).old (x := .pol A n c L) (by simp) h rfl).old (x := .pol A' n c' L') (by simp [Rs.own]) h' rfl)
 have HV := hI (And.intro hv hv')
 clear h h' hv hv'
 go_enter Tryz.func27, Tryz.ntmps27
 go_wp2_with fail
 go_loopw [5] (fun v wr => ∃ k : Nat, v = .int .i64 k /\ k <= n /\ Hid (Mem w wr [.pol A' n c' L', .pol A n c L])) (fun v _ => n - (intOf v).toNat)
 case atStart => exact ⟨0, rfl, Nat.zero_le _, H0⟩
 case round =>
  obtain ⟨k, rfl, hk, HR⟩ := hrel
  clear H0
  by_cases hlt : k < n
  . obtain ⟨ad, q, p, rfl, hq, hp⟩ := (HR.out.pol 1 rfl).el hlt
    have HQ := hI hq
    clear hq
    obtain ⟨ad', q2, p2, rfl, hq, hp2⟩ := (HR.out.pol 0 rfl).el hlt
    have HQ2 := hI hq
    clear hq
    go_wp2_with fail
    refine anyS_start (fun w' => Mem w w' [.pol (some ad') n c' L', .pol (some ad) n c L]) [] 10 (by kernel_rfl) (by kernel_rfl) ?_
    have hS := HR.out.drew
    refine anyS_take (v := ?_) 0 (some 17) rfl (by kernel_rfl) (by kernel_rfl) (fun _ _ _ h => h) (by rfl) ?_ hS ?_; rotate_left
    . (intro w' hSw; go_simp; try with_reducible rfl)
    try simp only [Act.put, List.setIfInBounds_toArray, List.set_cons_zero, List.set_cons_succ]
    refine anyS_take (v := ?_) 1 (some 18) rfl (by kernel_rfl) (by kernel_rfl) (fun _ _ _ h => h) (by rfl) ?_ hS ?_; rotate_left
    . (intro w' hSw; go_simp; try with_reducible rfl)
    try simp only [Act.put, List.setIfInBounds_toArray, List.set_cons_zero, List.set_cons_succ]
    refine anyS_take (v := ?_) 2 (some 19) rfl (by kernel_rfl) (by kernel_rfl) (fun _ _ _ h => h) (by rfl) ?_ hS ?_; rotate_left
    . (intro w' hSw; go_simp; try with_reducible rfl)
    try simp only [Act.put, List.setIfInBounds_toArray, List.set_cons_zero, List.set_cons_succ]
    refine anyS_take (v := ?_) 3 (some 20) rfl (by kernel_rfl) (by kernel_rfl) (fun _ _ _ h => h) (by rfl) ?_ hS ?_; rotate_left
    . (intro w' hSw; obtain ⟨x0, x1, x2, x3⟩ := (hSw.pol 1 rfl).c4 rfl HQ.out hp; go_simp; try with_reducible rfl)
    try simp only [Act.put, List.setIfInBounds_toArray, List.set_cons_zero, List.set_cons_succ]
    refine anyS_take (v := ?_) 4 (some 21) rfl (by kernel_rfl) (by kernel_rfl) (fun _ _ _ h => h) (by rfl) ?_ hS ?_; rotate_left
    . (intro w' hSw; go_simp; try with_reducible rfl)
    try simp only [Act.put, List.setIfInBounds_toArray, List.set_cons_zero, List.set_cons_succ]
    refine anyS_take (v := ?_) 5 (some 22) rfl (by kernel_rfl) (by kernel_rfl) (fun _ _ _ h => h) (by rfl) ?_ hS ?_; rotate_left
    . (intro w' hSw; go_simp; try with_reducible rfl)
    try simp only [Act.put, List.setIfInBounds_toArray, List.set_cons_zero, List.set_cons_succ]
    refine anyS_take (v := ?_) 6 (some 23) rfl (by kernel_rfl) (by kernel_rfl) (fun _ _ _ h => h) (by rfl) ?_ hS ?_; rotate_left
    . (intro w' hSw; go_simp; try with_reducible rfl)
    try simp only [Act.put, List.setIfInBounds_toArray, List.set_cons_zero, List.set_cons_succ]
    refine anyS_take (v := ?_) 7 (some 24) rfl (by kernel_rfl) (by kernel_rfl) (fun _ _ _ h => h) (by rfl) ?_ hS ?_; rotate_left
    . (intro w' hSw; obtain ⟨x0, x1, x2, x3⟩ := (hSw.pol 0 rfl).c4 rfl HQ2.out hp2; go_simp; try with_reducible rfl)
    try simp only [Act.put, List.setIfInBounds_toArray, List.set_cons_zero, List.set_cons_succ]
    have M1 := hI hS
    clear hS
    refine anyS_one 8 (by kernel_rfl) rfl (by rfl) (fun KK hKK => ?_)
    go_simp
    (with_reducible refine (sameRat_yes q q2 (coef l k) wr.drew ((M1.out.pol 1 rfl).ins q (List.mem_of_getElem? HQ.out)) ((M1.out.pol 0 rfl).ins q2 (List.mem_of_getElem? HQ2.out)) (HV.out.1.at_ HQ.out) (HV.out.2.at_ HQ2.out)).mono ?_)
    rintro e w1 ⟨rfl, hb⟩
    have M2 := hI (M1.out.on hb)
    clear hb M1
    refine hKK.out _ _ (Or.inr M2.out) ?_
    clear hKK KK 
    try simp only [Act.put, List.setIfInBounds_toArray, List.set_cons_zero, List.set_cons_succ]
    refine anyS_one 9 (by kernel_rfl) rfl (by rfl) (fun KK hKK => ?_)
    go_simp
    refine hKK.out _ _ (Or.inr M2.out) ?_
    clear hKK KK
    refine anyS_done (by kernel_rfl) ?_
    have HR2 := hI M2.out
    clear hp hp2
    go_wp2
    go_roundw
    case rel => exact ⟨k + 1, by go_num, by omega, HR2⟩
    case measure => simp [intOf]; omega
  . go_wp2
    go_ret
    exact ⟨rfl, HR.out.bel⟩
theorem same_yes {A A' : Option Addr} {n c n' c' : Nat} {l : List Rat} {w : World} (h : PV w A n c l) (h' : PV w A' n' c' l) (hn : l.length <= 100000) : Calls Tryz.prog 27 #[.slice A n c, .slice A' n' c'] w (Yes w) := by
 have e1 := h.len
 have e2 := h'.len
 subst e1
 subst e2
 obtain ⟨L, k1, k2⟩ := h
 obtain ⟨L', k3, k4⟩ := h'
 exact same_go A l.length c L A' c' L' l w k1 k2 k3 k4 hn
end Go.Proofs.YtmncfbfepdbioaaGreatDoor
namespace Go.Proofs.YtmncfbfepdbioaaGreatDoor
open Go.RowKit
def RetL (l : List Rat) (w : World) (e : Ending) (w' : World) : Prop := ∃ (A : Option Addr) (n c : Nat), e = .returned (.slice A n c) /\ PV w' A n c l /\ Below w.heap.size w w'
theorem Mem.newList {w0 w : World} {l : List Rs} (h : Mem w0 w l) (L : List RVal) (hL : ∀ q ∈ L, q.In w) (r : Nat) (hr : w.heap.size = r) : Mem w0 (w.alloc (.cells (qcells L).toArray 27)) (.arr r L :: l) := by
 subst hr
 exact h.push (x := .arr w.heap.size L) (below_new _ _) ⟨Blk.new w _ _, fun q k => (hL q k).on (below_new _ _)⟩ rfl (Nat.le_refl _)
theorem lnumber_any (n : Int) (w : World) (h1 : -9223372036854775808 <= n) (h2 : n <= 9223372036854775807) : Calls Tryz.prog 18 #[.int .i64 n] w (RetW (n : Rat) w) := by
 have M := hI ((Mem.nil w).newNil _ rfl)
 have C0 := hI fun W => rof_q n 1 W h1 h2 (by decide) (by decide)
 have E := hI (of_one n)
 clear h1 h2
 go_enter Tryz.func18, Tryz.ntmps18
 go_wp2_with fail
 generalize hW : World.alloc w _ = V at *
 clear hW
 have C := C0.out V
 rw [E.out.1, E.out.2.1, E.out.2.2] at C
 refine C.mono ?_
 clear C C0
 rintro e w1 ⟨t, rfl, ht, hv, hv2, hb⟩
 have M1 := hI ((M.out.on hb).newBox ht _ rfl)
 have HT := hI (show t.v = some (n : Rat) by unfold RVal.v; rw [hv, hv2]; exact rv_of _)
 clear ht hv hv2 hb M
 obtain ⟨f0, f1, f2, f3⟩ := (M1.out.box 1 rfl).fs
 obtain ⟨c0, c1, c2, c3⟩ := (M1.out.box 1 rfl).cs
 obtain ⟨d0, d1, d2, d3⟩ := (M1.out.box 0 rfl).cs
 go_wp2
 clear f0 f1 f2 f3 c0 c1 c2 c3 d0 d1 d2 d3
 generalize hU : World.setCell (World.setCell (World.setCell (World.setCell _ _ _) _ _) _ _) _ _ = U
 have M3 := hI (M1.out.putU 1 rfl (M1.out.box 0 rfl).sl hU)
 clear hU
 obtain ⟨j0, j1, j2, j3⟩ := (M3.out.box 1 rfl).cs
 refine bodyPost_ret (v := .agg #[.bool t.g, .slice t.A t.n t.c, .bool t.gd, .slice t.Ad t.nd t.cd]) (by simp [results, Tryz.results18, go_sem, j0, j1, j2, j3]) rfl ?_
 exact ⟨t, rfl, (M3.out.box 1 rfl).sl, HT.out, M3.out.bel⟩
def lin' (n : Int) : List Rat := [((-n : Int) : Rat), ((1 : Int) : Rat)]
theorem linear_any (n : Int) (w : World) (h1 : -1000000 <= n) (h2 : n <= 1000000) : Calls Tryz.prog 40 #[.int .i64 n] w (RetL (lin' n) w) := by
 go_enter Tryz.func40, Tryz.ntmps40
 go_wp2_with fail
 refine (lnumber_any (-n) w (by omega) (by omega)).mono ?_
 rintro e w1 ⟨q1, rfl, hq, hv, hb⟩
 have M1 := hI (((Mem.nil w).on hb).addRat hq)
 have V1 := hI hv
 clear hq hv hb
 go_wp2_with fail
 refine (lnumber_any 1 w1 (by decide) (by decide)).mono ?_
 rintro e w2 ⟨q2, rfl, hq, hv, hb⟩
 have M2 := hI ((M1.out.on hb).addRat hq)
 have V2 := hI hv
 clear hq hv hb M1
 have M3 := hI (M2.out.newList [q1, q2] (fun q k => by
  rcases List.mem_cons.1 k with rfl | k
  . exact M2.out.rat 1 rfl
  . rw [List.mem_singleton.1 k]; exact M2.out.rat 0 rfl) _ rfl)
 go_wp2
 go_ret
 refine ⟨some ⟨w2.heap.size, 0, none⟩, 2, 2, rfl, ⟨[q1, q2], psl_arr (M3.out.arr 0 rfl) (by simp), ?_⟩, M3.out.bel⟩
 exact Vs.cons V1.out (Vs.cons V2.out rfl)
def pk (x n : Int) : Int := (if x < 0 then -(x + 1) else x) % n
theorem pk_lo (x : Int) {n : Int} (h : 0 < n) : 0 <= pk x n := Int.emod_nonneg _ (by omega)
theorem pk_hi (x : Int) {n : Int} (h : 0 < n) : pk x n < n := Int.emod_lt_of_pos _ h
theorem pick_any (x n : Int) (w : World) (h1 : -9223372036854775808 <= x) (h2 : x <= 9223372036854775807) (h3 : 0 < n) (h4 : n <= 9223372036854775807) : Calls Tryz.prog 19 #[.int .i64 x, .int .i64 n] w fun e w' => e = .returned (.int .i64 (pk x n)) /\ w = w' := by
 have hn : ¬ n = 0 := by omega
 by_cases hx : x < 0
 . have hy : 0 <= -(x + 1) := by omega
   have hp : pk x n = -(x + 1).tmod n := by unfold pk; rw [if_pos hx, <- Int.tmod_eq_emod_of_nonneg hy, Int.neg_tmod]
   have HP := hI hp
   clear hp
   go_enter Tryz.func19, Tryz.ntmps19
   go_wp2
   go_ret
   exact ⟨by rw [HP.out]; rfl, rfl⟩
 . have hy : 0 <= x := by omega
   have hp : pk x n = x % n := by unfold pk; rw [if_neg hx]
   have HP := hI hp
   clear hp
   go_enter Tryz.func19, Tryz.ntmps19
   go_wp2
   go_ret
   exact ⟨by rw [HP.out]; rfl, rfl⟩
structure OwnQ (w : World) (base : Nat) (v : Value) (L : List RVal) : Prop where
 own : OwnC w base 27 4 v L.length (qcells L)
 ins : ∀ q ∈ L, q.In w
theorem ownq_psl {w : World} {base : Nat} {v : Value} {L : List RVal} (h : OwnQ w base v L) (hl : L.length <= 1000) : ∃ A c, v = .slice A L.length c /\ PSl w A L.length c L := by
 have ho := h.own.own
 rcases ho.2 with ⟨rfl, h0⟩ | ⟨g, cap, cur, rfl, _, _, hnc, hcap, _⟩
 . have e : L = [] := List.eq_nil_of_length_eq_zero h0
   subst e
   exact ⟨_, _, rfl, PSl.nil _⟩
 . exact ⟨_, _, rfl, ⟨hnc, by omega, by unfold maxLen at hcap; omega, (fun e => by cases e), Reads.of_own ho, h.ins⟩⟩
theorem OwnQ.on {w w' : World} {base : Nat} {v : Value} {L : List RVal} (h : OwnQ w base v L) (hb : Below w.heap.size w w') : OwnQ w' base v L := ⟨h.own.below hb, fun q k => (h.ins q k).on hb⟩
theorem rats_app {w : World} {base : Nat} {v : Value} {L : List RVal} {ops : Array Oper} {rest : List Oper} {o : Oper} {a : Act} {Q : Exit -> Act -> World -> Prop} (hgd : o.guard = none) (s x : Operand)
 (ho : o.op = .call { callee := .builtin .append, args := #[s, x], argTypes := #[22, 22] }) (b : Nat) (q : RVal) (hp : OwnQ w base v L) (hs : a.eval s = v) (hx : a.eval x = .slice (some ⟨b, 0, none⟩) 1 1)
 (hb : Blk w b 27 #[.bool q.g, .slice q.A q.n q.c, .bool q.gd, .slice q.Ad q.nd q.cd]) (hq : q.In w) (hn : L.length <= 100000) (hbase : base <= w.heap.size)
 (h : ∀ v' w', OwnQ w' base v' (L ++ [q]) -> w.grownBy w' v.ownBlock -> (∀ g, v.ownBlock = some g -> base <= g) -> wpList Tryz.prog ops Q rest (a.put o.dst v') w') :
 wpList Tryz.prog ops Q (o :: rest) a w := by
 obtain ⟨i0, hi0, hz0, hz1, hz2⟩ := info_parts Rat_info
 have add : ∀ j, (⟨b, 0, none⟩ : Addr).add j = ⟨b, j, none⟩ := fun j => by unfold Addr.add; split <;> simp_all
 obtain ⟨v', w', hr, h2, h3, h4⟩ := run_append_clean (P := Tryz.prog) (w := w) 22 o.type i0 _ 64 Tryz.underlying22 hi0 hz0 hz1 hz2 rfl (by decide) hp.own ⟨b, 0, none⟩ 1 [.bool q.g, .slice q.A q.n q.c, .bool q.gd, .slice q.Ad q.nd q.cd] rfl
  (by
   intro j u hu
   rw [add, Blk.cell hb j, List.getElem?_toArray]
   exact hu)
  (by intro u hu; simp only [List.mem_cons, List.not_mem_nil, or_false] at hu; rcases hu with rfl | rfl | rfl | rfl <;> rfl)
  (by
   intro j hj
   match j, hj with
   | 0, _ => intro k x e; cases e
   | 1, _ => intro k x e; cases e
   | 2, _ => intro k x e; cases e
   | 3, _ => intro k x e; cases e)
  (by intro u hu; simp only [List.mem_cons, List.not_mem_nil, or_false] at hu; rcases hu with rfl | rfl | rfl | rfl <;> (intro k x e; cases e))
  (by unfold maxLen; omega) (by omega) hbase
 refine wpList_plain hgd fun _ hK => ?_
 unfold Oper.wp execOp
 simp only [ho, resolve, invoke, builtin, Sem.run_bind, Sem.run_pure, Result.andThen_ok, List.map_toArray, List.map_cons, List.map_nil, hs, hx, hr]
 refine hK _ _ (h v' w' ⟨?_, ?_⟩ h3 (fun g e => (hp.own.own.lt g e).1))
 . rw [qcells_app, List.length_append]
   exact h2
 . intro y hy
   rcases List.mem_append.1 hy with m | m
   . exact ⟨(hp.ins y m).1.rowC hp.own h3, (hp.ins y m).2.rowC hp.own h3⟩
   . rw [List.mem_singleton] at m
     subst m
     exact ⟨hq.1.rowC hp.own h3, hq.2.rowC hp.own h3⟩
def ISl (w : World) (A : Option Addr) (n c : Nat) (zs : List Int) : Prop := zs.length = n /\ n <= c /\ c <= 9223372036854775807 /\ (∀ k, k < n -> ∃ ad : Addr, A = some ad /\ ad.block < w.heap.size /\ w.cell? (ad.add k) = some (.int .i64 (zs.getD k 0))) /\ ∀ z ∈ zs, -9223372036854775808 <= z /\ z <= 9223372036854775807
theorem ISl.on {w w' : World} {A : Option Addr} {n c : Nat} {zs : List Int} (h : ISl w A n c zs) (hb : Below w.heap.size w w') : ISl w' A n c zs :=
 ⟨h.1, h.2.1, h.2.2.1, fun k hk => by
  obtain ⟨ad, e, hl, hc⟩ := h.2.2.2.1 k hk
  exact ⟨ad, e, Nat.lt_of_lt_of_le hl hb.size, by rw [hb.cell (by rw [block_of_add]; exact hl)]; exact hc⟩, h.2.2.2.2⟩
def cofs (zs : List Int) (m : Nat) : List Rat := (zs.take m).map fun z => ((pk z 101 - 50 : Int) : Rat)
def polyL (zs : List Int) (m : Nat) : List Rat := ptrim (cofs zs m)
theorem cofs_succ {zs : List Int} {k : Nat} (h : k < zs.length) : cofs zs (k + 1) = cofs zs k ++ [((pk (zs.getD k 0) 101 - 50 : Int) : Rat)] := by
 unfold cofs
 rw [List.take_succ_eq_append_getElem h, List.map_append, List.getD_eq_getElem?_getD, List.getElem?_eq_getElem h]
 rfl
theorem cofs_len {zs : List Int} {k : Nat} (h : k <= zs.length) : (cofs zs k).length = k := by unfold cofs; rw [List.length_map, List.length_take]; omega
def PyR (w : World) (A : Option Addr) (n c : Nat) (zs : List Int) (k : Nat) (v : Value) (last : Nat) (wr : World) : Prop :=
 Below w.heap.size w wr /\ ISl wr A n c zs /\ last = (ptrim (cofs zs k)).length /\ ∃ L, OwnQ wr w.heap.size v L /\ Vs L (cofs zs k)
theorem cint_num (c : Int) : ((c : Rat)).num = c := Rat.num_intCast c
theorem ptrim_snoc_len (l : List Rat) (c : Int) : (ptrim (l ++ [(c : Rat)])).length = if c = 0 then (ptrim l).length else l.length + 1 := by
 rw [ptrim_snoc, cint_num]
 split
 . rfl
 . rw [List.length_append]; rfl
theorem poly_any (A : Option Addr) (n c : Nat) (zs : List Int) (m : Nat) (w : World) (h : ISl w A n c zs) (hm : m <= 1000) : Calls Tryz.prog 17 #[.slice A n c, .int .i64 (m : Int)] w (RetL (polyL zs m) w) := by
 have hn := h.2.2.1
 have hnc := h.2.1
 have HIold := hI h
 have H0 := hI (show PyR w A n c zs 0 (.slice none 0 0) 0 w from ⟨Below.refl _ _, h, rfl, [], ⟨OwnC.nil _ _ _ _, fun _ k => (nomatch k)⟩, rfl⟩)
 clear h
 go_enter Tryz.func17, Tryz.ntmps17
 go_wp2_with fail
 go_loopw [7, 5, 6] (fun v x y wr => ∃ k last : Nat, v = .int .i64 k /\ y = .int .i64 last /\ k <= n /\ k <= m /\ Hid (PyR w A n c zs k x last wr)) (fun v _ _ _ => n - (intOf v).toNat)
 case atStart => exact ⟨0, 0, rfl, rfl, Nat.zero_le _, Nat.zero_le _, H0⟩
 case round =>
  obtain ⟨k, last, rfl, rfl, hk, hkm, HR1⟩ := hrel
  obtain ⟨v5, hv5⟩ : ∃ x : Value, u5 = x := ⟨_, rfl⟩
  rw [hv5] at HR1
  have HR := hI HR1.out
  clear H0 HR1
  subst hv5
  by_cases hlt : k < n /\ k < m
  . obtain ⟨hlt, hlm⟩ := hlt
    obtain ⟨L, HL⟩ := HR.out.2.2.2
    have HL := hI HL
    obtain ⟨ad, rfl, _, x0⟩ := HR.out.2.1.2.2.2.1 k hlt
    have HZ := hI (show zs.getD k 0 ∈ zs by rw [List.getD_eq_getElem?_getD, List.getElem?_eq_getElem (by rw [HR.out.2.1.1]; exact hlt)]; exact List.getElem_mem _)
    obtain ⟨z, hz⟩ : ∃ z : Int, zs.getD k 0 = z := ⟨_, rfl⟩
    have hz1 := (HR.out.2.1.2.2.2.2 _ HZ.out).1
    have hz2 := (HR.out.2.1.2.2.2.2 _ HZ.out).2
    rw [hz] at x0 hz1 hz2
    obtain ⟨pc, hpc⟩ : ∃ p : Int, pk z 101 = p := ⟨_, rfl⟩
    have hp1 : 0 <= pc := by rw [<- hpc]; exact pk_lo z (by decide)
    have hp2 : pc < 101 := by rw [<- hpc]; exact pk_hi z (by decide)
    have HPC := hI (And.intro hz hpc)
    have HC := hI (show cofs zs (k + 1) = cofs zs k ++ [((pc - 50 : Int) : Rat)] by rw [cofs_succ (by rw [HR.out.2.1.1]; exact hlt), hz, hpc])
    have HK := hI (cofs_len (zs := zs) (k := k) (by rw [HR.out.2.1.1]; exact hk))
    clear hz
    go_wp2_with fail
    have C := pick_any z 101 wr hz1 hz2 (by decide) (by decide)
    rw [hpc] at C
    refine C.mono ?_
    clear C x0 hpc hz1 hz2
    rintro e w1 ⟨rfl, rfl⟩
    go_wp2_with fail
    refine (lnumber_any (pc - 50) wr (by omega) (by omega)).mono ?_
    rintro e w1 ⟨q, rfl, hq, hv, hb⟩
    have HB := hI (below_chain HR.out.1 HR.out.1.size hb)
    have HI := hI (HR.out.2.1.on hb)
    have HO := hI (HL.out.1.on hb)
    have HQ := hI (And.intro hq hv)
    have hn1 := below_new w1 (.cells #[.bool q.g, .slice q.A q.n q.c, .bool q.gd, .slice q.Ad q.nd q.cd] 27)
    have HO2 := hI (HO.out.on hn1)
    have HQ2 := hI (HQ.out.1.on hn1)
    have HB2 := hI (below_chain HB.out HB.out.size hn1)
    have HI2 := hI (HI.out.on hn1)
    have HN := hI (Blk.new w1 27 #[.bool q.g, .slice q.A q.n q.c, .bool q.gd, .slice q.Ad q.nd q.cd])
    have HLl := hI (show L.length <= 100000 by rw [HL.out.2.len, HK.out]; omega)
    have HZ0 := hI HR.out.2.2.1
    clear hq hv hb hn1
    have HCL := hI (show ∀ (v' : Value) (w' : World), OwnQ w' w.heap.size v' (L ++ [q]) -> (w1.alloc (.cells #[.bool q.g, .slice q.A q.n q.c, .bool q.gd, .slice q.Ad q.nd q.cd] 27)).grownBy w' u5.ownBlock -> (∀ g, u5.ownBlock = some g -> w.heap.size <= g) -> ∀ last', last' = (ptrim (cofs zs (k + 1))).length -> PyR w (some ad) n c zs (k + 1) v' last' w' from fun v' w' ho hg hge last' hl => by
     have hbl := HB2.out.grown hg HB2.out.size (fun g e => hge g e)
     refine ⟨hbl, ⟨HI2.out.1, HI2.out.2.1, HI2.out.2.2.1, fun j hj => ?_, HI2.out.2.2.2.2⟩, hl, L ++ [q], ho, ?_⟩
     . obtain ⟨ad', e, h1, h2⟩ := HIold.out.2.2.2.1 j hj
       exact ⟨ad', e, Nat.lt_of_lt_of_le h1 hbl.size, by rw [hbl.cell (by rw [block_of_add]; exact h1)]; exact h2⟩
     . rw [HC.out]
       have h1 := HL.out.2
       have h2 : q.v = some ((pc - 50 : Int) : Rat) := HQ.out.2
       unfold Vs at *
       rw [List.map_append, List.map_append, h1, List.map_singleton, List.map_singleton, h2])
    by_cases hc0 : pc - 50 = 0
    . have hc1 : ((pc - 50) != 0) = false := by rw [hc0]; rfl
      have HE := hI (show last = (ptrim (cofs zs (k + 1))).length by rw [HC.out, ptrim_snoc_len, if_pos hc0]; exact HZ0.out)
      clear hc0
      go_wp2_with (at_builtin; refine rats_app rfl _ _ rfl w1.heap.size q HO2.out rfl rfl HN.out HQ2.out HLl.out HB2.out.size ?_; intro v' w' ho hg hge)
      have HR2 := hI (HCL.out v' w' ho hg hge last HE.out)
      clear ho hg hge
      go_wp2
      go_roundw
      case rel => exact ⟨k + 1, last, by go_num, rfl, by omega, by omega, HR2⟩
      case measure => simp [intOf]; omega
    . have hc1 : ((pc - 50) != 0) = true := by rw [bne_iff_ne]; exact hc0
      have HE := hI (show k + 1 = (ptrim (cofs zs (k + 1))).length by rw [HC.out, ptrim_snoc_len, if_neg hc0, HK.out])
      clear hc0
      go_wp2_with (at_builtin; refine rats_app rfl _ _ rfl w1.heap.size q HO2.out rfl rfl HN.out HQ2.out HLl.out HB2.out.size ?_; intro v' w' ho hg hge)
      have HR2 := hI (HCL.out v' w' ho hg hge (k + 1) HE.out)
      clear ho hg hge
      go_wp2
      go_roundw
      case rel => exact ⟨k + 1, k + 1, by go_num, by go_num, by omega, by omega, HR2⟩
      case measure => simp [intOf]; omega
  . have HC := hI (show cofs zs k = cofs zs m by
     have l := HR.out.2.1.1
     unfold cofs
     rcases Nat.lt_or_ge k n with g | g
     . have e : k = m := by omega
       rw [e]
     . rw [List.take_of_length_le (by omega), List.take_of_length_le (by omega)])
    obtain ⟨L, ho, hv⟩ := HR.out.2.2.2
    have HL0 := hI (show L.length <= 1000 by rw [hv.len, cofs_len (by rw [HR.out.2.1.1]; exact hk)]; omega)
    obtain ⟨B, cc, rfl, hp⟩ := ownq_psl ho HL0.out
    have HL := hI (utrim_psl hp hv)
    have HE := hI HR.out.2.2.1
    have h1 : last <= cc := by
     have a1 := hp.cap
     have a2 := (utrim_psl hp hv).1.len
     rw [List.length_take] at a2
     have := HE.out
     omega
    have h2 := hp.capr
    have HP := hI hp
    have HB := hI HR.out.1
    clear ho hv hp HR HL0 HIold
    have h3 : L.length <= cc := HP.out.cap
    by_cases hd : k < n
    . have hd2 : ¬ k < m := fun g => hlt ⟨hd, g⟩
      clear hlt
      go_wp2
      refine bodyPost_ret (v := .slice B last cc) ?_ rfl ?_
      . simp [results, Tryz.results17, go_sem]
      . refine ⟨B, last, cc, rfl, ?_, HB.out⟩
        rw [HE.out]
        unfold polyL
        rw [<- HC.out]
        exact ⟨_, HL.out.1, HL.out.2⟩
    . clear hlt
      go_wp2
      refine bodyPost_ret (v := .slice B last cc) ?_ rfl ?_
      . simp [results, Tryz.results17, go_sem]
      . refine ⟨B, last, cc, rfl, ?_, HB.out⟩
        rw [HE.out]
        unfold polyL
        rw [<- HC.out]
        exact ⟨_, HL.out.1, HL.out.2⟩
end Go.Proofs.YtmncfbfepdbioaaGreatDoor
namespace Go.Proofs.YtmncfbfepdbioaaGreatDoor
open Go.RowKit
def AttF (r : Except Int (List Rat)) (w : World) (e : Ending) (w' : World) : Prop := match r with
 | .ok l => ∃ (A : Option Addr) (n c : Nat), e = .returned (.tuple #[.slice A n c, .int .i64 0]) /\ PV w' A n c l /\ (∀ ad, A = some ad -> w.heap.size <= ad.block) /\ Below w.heap.size w w'
 | .error er => e = .returned (.tuple #[.slice none 0 0, .int .i64 er]) /\ Below w.heap.size w w'
theorem Mul_fresh (A : Option Addr) (n c : Nat) (a : List Rat) (A' : Option Addr) (n' c' : Nat) (b : List Rat) (w : World) (h : PV w A n c a) (h' : PV w A' n' c' b) (ta : Tr a) (tb : Tr b) (la : a.length <= 65) (lb : b.length <= 65) :
 Calls Tryz.prog 24 #[.slice A n c, .slice A' n' c'] w (AttF (pmulO a b) w) := by
 have hmf : ∀ (fn : Fn) (first cap : Array Value) (w : World), (Instr.makeFunc fn first cap).run Tryz.prog w = .ok (.func fn first cap) w := fun _ _ _ _ => rfl
 obtain ⟨L, h, hv⟩ := h
 obtain ⟨L', h', hv'⟩ := h'
 have HCK := hI (And.intro (chk_ok h hv ta la) (chk_ok h' hv' tb lb))
 have HN := hI (show n <= 1000 /\ n' <= 1000 /\ n <= 65 /\ n' <= 65 from ⟨by rw [<- h.len, hv.len]; omega, by rw [<- h'.len, hv'.len]; omega, by rw [<- h.len, hv.len]; omega, by rw [<- h'.len, hv'.len]; omega⟩)
 have M := hI ((((((Mem.nil w).old (x := .pol A n c L) (by simp) h rfl).old (x := .pol A' n' c' L') (by simp [Rs.own]) h' rfl).newCel (t := 22) (noUs1 A n c) _ rfl).newCel (t := 22) (noUs1 A' n' c') (w.heap.size + 1) (by simp)).newCel (t := 22) (noUs2 A n c A' n' c') (w.heap.size + 1 + 1) (by simp))
 have HV := hI (And.intro hv hv')
 have HT := hI (And.intro ta tb)
 clear h hv ta h' hv' tb
 go_enter Tryz.func24, Tryz.ntmps24
 go_wp2_with fail
 generalize hW : World.alloc (World.alloc (World.alloc w _) _) _ = V at *
 clear hW
 have C := attP_any 65 #[.pointer (some ⟨w.heap.size, 0, none⟩), .pointer (some ⟨w.heap.size + 1, 0, none⟩)] (w.heap.size + 1 + 1) 2 2 _ (pmulO a b) V (polys2 (M.out.cel 0 rfl).1 (M.out.pol 4 rfl) (M.out.pol 3 rfl) (by have := HN.out; omega) (by have := HN.out; omega)) (by decide) (Nat.le_refl _) (fun k hk => by rw [HCK.out.1, HCK.out.2]; split <;> rfl) (Or.inl rfl) (hI fun W hb => cl_Mul w.heap.size (w.heap.size + 1) A n c L a A' n' c' L' b W ((M.out.on hb).cel 2 rfl).1 ((M.out.on hb).cel 1 rfl).1 ((M.out.on hb).pol 4 rfl) HV.out.1 HN.out.1 HT.out.1 ((M.out.on hb).pol 3 rfl) HV.out.2 HN.out.2.1 HT.out.2)
 have HC := hI C
 generalize pmulO a b = r at *
 clear C
 rcases r with er | l
 . refine HC.out.mono ?_
   rintro e w1 ⟨rfl, hb⟩
   have HB := hI (M.out.on hb).bel
   clear hb
   go_wp2
   go_ret2
   exact ⟨rfl, HB.out⟩
 . refine HC.out.mono ?_
   rintro e w1 ⟨A3, n3, c3, L3, rfl, hp, hv, hf, hb⟩
   have HP := hI (show PV w1 A3 n3 c3 l from ⟨L3, hp, hv⟩)
   have HF := hI (show ∀ ad, A3 = some ad -> w.heap.size <= ad.block from fun ad e => Nat.le_trans M.out.bel.size (hf ad e))
   have HB := hI (M.out.on hb).bel
   clear hp hv hf hb
   go_wp2
   go_ret2
   exact ⟨A3, n3, c3, rfl, HP.out, HF.out, HB.out⟩
end Go.Proofs.YtmncfbfepdbioaaGreatDoor
