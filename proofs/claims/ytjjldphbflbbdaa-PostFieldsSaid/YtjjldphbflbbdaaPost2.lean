/-
  Layer 22: On; ContainsFunc; the chart's Right and Get.
-/
import Derived.Test.YtjjldphbflbbdaaPost
import Derived.Lib.OthersKept
import Derived.WalkSmall
--import Derived.Test.Zdbg
namespace Go.Proofs.Ytjjldphbflbbdaa
set_option linter.unusedSimpArgs false
set_option linter.unusedVariables false
open Go.RowKit Go.WideShapes Go.ChangeShapes Go.ChangeAt Go.Deep

theorem on1_tells (acct : Int) (q : Nat) : Tells 35 #[.pointer (some ⟨q, 0, none⟩)] (fun x => decide (x.c = acct)) (fun W => W.cell? ⟨q, 0, none⟩ = some (.int .i64 acct)) := by
  intro x w hc
  obtain ⟨xc, xn⟩ := x
  have hq : q < w.heap.size := World.block_lt_of_cell? w _ hc
  have h2 := (World.cell?_alloc_old w (.cells #[.int .i64 xc, .int .i64 xn] 81) ⟨q, 0, none⟩ (by show q ≠ _; omega)).trans hc
  have HQ := hide hq
  clear hc hq
  show Calls Try.prog 35 #[.agg #[.int .i64 xc, .int .i64 xn], .pointer (some ⟨q, 0, none⟩)] w fun e w' => e = .returned (.bool (decide (xc = acct))) ∧ Below w.heap.size w w'
  go_enter Try.func35, Try.ntmps35
  go_wp2_with fail
  go_ret
  exact ⟨by simp <;> rfl, (Below.refl _ _).alloc (Nat.le_refl _) _⟩
def onL (acct : Int) (L : List LnM) : List Int := wantN (fun x => decide (x.c = acct)) L
set_option maxRecDepth 100000 in
set_option maxHeartbeats 400000 in
theorem pon_any (acct : Int) (L : List LnM) (hL : L.length ≤ 1000) (hr : ∀ x ∈ L, inR x.n) (a : Option Addr) (cap : Nat) (w : World) (hin : LnIn w a L) :
    Calls Try.prog 15 #[.slice a L.length cap, .int .i64 acct] w fun e w' => e = .returned (.tuple #[.int .i64 (sumV (onL acct L).sum), .int .i64 (sumE (onL acct L).sum)]) ∧ Below w.heap.size w w' := by
  have hal := (Below.refl w.heap.size w).alloc (Nat.le_refl _) (.cells #[.int .i64 acct] 3)
  have X := heap_new w (.cells #[.int .i64 acct] 3)
  have HT := hide (total_with 35 (enters Try.func35 (by kernel_rfl) rfl) #[.pointer (some ⟨w.heap.size, 0, none⟩)] (fun x => decide (x.c = acct)) (fun W => W.cell? ⟨w.heap.size, 0, none⟩ = some (.int .i64 acct))
    (w.alloc (.cells #[.int .i64 acct] 3)) (fun W W' hW hs hb => (hb.cell (p := ⟨w.heap.size, 0, none⟩) (heap_lt X)).trans hW) (on1_tells acct w.heap.size) L hL hr a cap (hin.below hal) (cell_of_block X 0))
  have HA := hide hal
  rw [show wantN (fun x => decide (x.c = acct)) L = onL acct L from rfl] at HT
  generalize onL acct L = M at *
  clear X hal hin hr
  go_enter Try.func15, Try.ntmps15
  go_wp2_with fail
  refine HT.out.mono ?_
  rintro e w2 ⟨rfl, hb⟩
  have HB := hide (HA.out.trans (hb.mono HA.out.size))
  clear hb
  go_wp2_with fail
  go_ret2
  exact ⟨rfl, HB.out⟩
set_option maxRecDepth 100000 in
set_option maxHeartbeats 800000 in
theorem indexFunc_with (f : FuncId) (ef : Enters f) (ac : Array Value) (g : LnM → Bool) (I : World → Prop) (w : World) (hI : Keeps I w) (hf : Tells f ac g I)
    (L : List LnM) (hL : L.length ≤ 1000) (a : Option Addr) (cap : Nat) (hin : LnIn w a L) (h : I w) :
    Calls Try.prog 44 #[.slice a L.length cap, .func (.func f) #[] ac] w fun e w' => ∃ r : Int, e = .returned (.int .i64 r) ∧ (0 ≤ r ↔ L.any g = true) ∧ Below w.heap.size w w' := by
  have HF := hide hf
  have HK := hide hI
  have HIN := hide hin
  have H0 := hide h
  unfold Enters at ef
  clear hf hI hin h
  go_enter Try.func44, Try.ntmps44
  go_wp2_with fail
  go_loopw [8] (fun i W => ∃ k : Nat, k ≤ L.length ∧ i = .int .i64 k ∧ (∀ j, j < k → g (L.getD j ln0) = false) ∧ I W ∧ Below w.heap.size w W) (fun i _ => L.length - (intOf i).toNat)
  case atStart => exact ⟨0, by omega, rfl, fun j hj => absurd hj (Nat.not_lt_zero j), H0.out, Below.refl _ _⟩
  case round =>
    obtain ⟨k, hk, rfl, hno, hi, hb⟩ := hrel
    have HB := hide hb
    have HNO := hide hno
    have HIW := hide hi
    clear hb hno hi H0
    by_cases hlt : k < L.length
    · obtain ⟨b, off, rfl, hbl, c0, c1⟩ := (HIN.out.below HB.out) k hlt
      have HME := hide (show L.getD k ln0 ∈ L from ln_mem L k hlt)
      have HX := hide (fun (hg : g (L.getD k ln0) = false) => show ∀ j, j < k + 1 → g (L.getD j ln0) = false from fun j hj => by
        by_cases e : j = k
        · subst e; exact hg
        · exact HNO.out j (by omega))
      generalize L.getD k ln0 = x at *
      obtain ⟨xc, xn⟩ := x
      dsimp only at *
      have HT := hide (HF.out ⟨xc, xn⟩ wr HIW.out)
      go_wp2_with fail
      refine HT.out.mono ?_
      rintro e w2 ⟨rfl, hb⟩
      have I2 := hide (HK.out.low HIW.out HB.out.size hb)
      have B2 := hide (HB.out.trans (hb.mono HB.out.size))
      clear hb HIW HB c0 c1 HT hbl
      generalize hg : g ⟨xc, xn⟩ = gv at *
      cases gv with
      | false =>
        have HXX := hide (HX.out rfl)
        clear HX
        go_wp2_with fail
        go_roundw
        case rel => exact ⟨k + 1, by omega, by go_num, HXX.out, I2.out, B2.out⟩
        case measure => simp [intOf]; omega
      | true =>
        have HAN := hide (show L.any g = true from List.any_eq_true.2 ⟨_, HME.out, hg⟩)
        clear HX hg HME
        go_wp2_with fail
        go_ret
        exact ⟨k, rfl, ⟨fun _ => HAN.out, fun _ => by omega⟩, B2.out⟩
    · obtain rfl : k = L.length := by omega
      go_wp2_with fail
      go_ret
      refine ⟨-1, rfl, ⟨fun h => absurd h (by decide), fun h => ?_⟩, HB.out⟩
      obtain ⟨x, hx, hgx⟩ := List.any_eq_true.1 h
      obtain ⟨i, hi, rfl⟩ := List.getElem_of_mem hx
      have := HNO.out i hi
      simp [List.getD, hi] at this
      rw [this] at hgx
      exact absurd hgx (by decide)
set_option maxRecDepth 100000 in
theorem check1_tells : Tells 28 #[] (fun x => decide (x.n = 0)) (fun _ => True) := by
  intro x w _
  obtain ⟨xc, xn⟩ := x
  show Calls Try.prog 28 #[.agg #[.int .i64 xc, .int .i64 xn]] w fun e w' => e = .returned (.bool (decide (xn = 0))) ∧ Below w.heap.size w w'
  go_enter Try.func28, Try.ntmps28
  go_wp2_with fail
  go_ret
  exact ⟨by simp <;> rfl, (Below.refl _ _).alloc (Nat.le_refl _) _⟩
set_option maxRecDepth 100000 in
theorem check2_tells : Tells 32 #[] (fun _ => true) (fun _ => True) := by
  intro x w _
  obtain ⟨xc, xn⟩ := x
  show Calls Try.prog 32 #[.agg #[.int .i64 xc, .int .i64 xn]] w fun e w' => e = .returned (.bool true) ∧ Below w.heap.size w w'
  go_enter Try.func32, Try.ntmps32
  go_wp2_with fail
  go_ret
  exact ⟨rfl, (Below.refl _ _).alloc (Nat.le_refl _) _⟩
def zeroIn (L : List LnM) : Bool := L.any fun x => decide (x.n = 0)
theorem contains_zero (L : List LnM) (hL : L.length ≤ 1000) (a : Option Addr) (cap : Nat) (w : World) (hin : LnIn w a L) :
    Calls Try.prog 29 #[.slice a L.length cap, .func (.func 28) #[] #[]] w fun e w' => e = .returned (.bool (zeroIn L)) ∧ Below w.heap.size w w' := by
  have HT := hide (indexFunc_with 28 (enters Try.func28 (by kernel_rfl) rfl) #[] _ _ w (fun _ _ _ _ _ => trivial) check1_tells L hL a cap hin trivial)
  go_enter Try.func29, Try.ntmps29
  go_wp2_with fail
  refine HT.out.mono ?_
  rintro e w2 ⟨r, rfl, hr, hb⟩
  have HB := hide hb
  have HR := hide hr
  clear hb hr
  go_wp2_with fail
  go_ret
  have h1 : decide (0 ≤ r) = zeroIn L := by
    rw [Bool.eq_iff_iff, decide_eq_true_iff]
    exact HR.out
  exact ⟨congrArg (fun b => Ending.returned (Value.bool b)) h1, HB.out⟩
set_option maxRecDepth 100000 in
set_option maxHeartbeats 800000 in
theorem right_x (k : Nat) (hk : 1 ≤ k ∧ k ≤ 100) (w : World) :
    Calls Try.prog 42 #[.agg #[.int .i64 (k : Int), .int .u8 1, .string ⟨#[120]⟩]] w fun e w' => e = .returned (.bool true) ∧ Below w.heap.size w w' := by
  go_enter Try.func42, Try.ntmps42
  go_wp2_with fail
  obtain ⟨ob, hob⟩ : ∃ ob, ob = (Obj.cells #[.int .i64 (k : Int), .int .u8 1, .string ⟨#[120]⟩] 75) := ⟨_, rfl⟩
  rw [← hob]
  have hal := (Below.refl w.heap.size w).alloc (Nat.le_refl _) ob
  have X1 := hide (show (w.alloc ob).heap[w.heap.size]? = some (.cells #[.int .i64 (k : Int), .int .u8 1, .string ⟨#[120]⟩] 75 (0, 0)) by rw [heap_new, hob])
  have hs1 : (w.alloc ob).heap.size = w.heap.size + 1 := by simp
  have XI := hide (show ((w.alloc ob).iter ⟨#[120]⟩ 0).heap[w.heap.size + 1]? = some (.stringIter ⟨#[120]⟩ 0) by rw [← hs1]; exact heap_new (w.alloc ob) (.stringIter ⟨#[120]⟩ 0))
  have hal2 := (Below.refl (w.alloc ob).heap.size (w.alloc ob)).alloc (Nat.le_refl _) (.stringIter ⟨#[120]⟩ 0)
  have X2 := hide (show ((w.alloc ob).iter ⟨#[120]⟩ 0).heap[w.heap.size]? = some (.cells #[.int .i64 (k : Int), .int .u8 1, .string ⟨#[120]⟩] 75 (0, 0)) from (hal2.block _ (heap_lt X1.out)).trans X1.out)
  have B2 := hide (show Below w.heap.size w ((w.alloc ob).iter ⟨#[120]⟩ 0) from hal.trans (hal2.mono (by omega)))
  generalize (w.alloc ob).iter ⟨#[120]⟩ 0 = w1 at *
  clear hal hal2 hs1 hob ob X1
  have HQ := hide (show w.heap.size = w.heap.size from rfl)
  generalize hq : w.heap.size = q at *
  clear HQ
  have HQ := hide hq
  clear hq
  go_loopw [4] (fun z W => ∃ pos : Nat, pos ≤ 1 ∧ W.heap[q + 1]? = some (.stringIter ⟨#[120]⟩ pos) ∧ W.heap[q]? = some (.cells #[.int .i64 (k : Int), .int .u8 1, .string ⟨#[120]⟩] 75 (0, 0)) ∧ Below q w W) (fun z W => 1 - W.iterPos (q + 1))
  case atStart => exact ⟨0, by omega, XI.out, X2.out, B2.out⟩
  case round =>
    clear XI X2 B2
    obtain ⟨pos, hp, hi, hx, hb⟩ := hrel
    have HP := hide (iterPos_of hi)
    have HI := hide hi
    have HX := hide hx
    have HB := hide hb
    clear hi hx hb
    by_cases h0 : pos = 0
    · subst h0
      have hnx : ∀ ty, (Instr.next (.pointer (some ⟨q + 1, 0, none⟩)) true ty).run Try.prog wr = .ok (.tuple #[.bool true, .int .i64 0, .int .i32 120]) (wr.iterAt (q + 1) ⟨#[120]⟩ 1) := fun ty => Lib.run_next_any_at wr (q + 1) ⟨#[120]⟩ 0 ty HI.out (by decide)
      have I2 := hide (Lib.iterAt_heap wr (q + 1) ⟨#[120]⟩ 0 1 HI.out)
      have B2 := hide (Lib.below_iterAt HB.out (k := q + 1) (by omega) ⟨#[120]⟩ 1)
      have X2 := hide ((Lib.iterAt_other wr (q + 1) q ⟨#[120]⟩ 1 (by omega)).trans HX.out)
      generalize wr.iterAt (q + 1) ⟨#[120]⟩ 1 = w2 at *
      clear HI HX HB
      go_wp2_with fail
      go_roundw
      case rel => exact ⟨1, by omega, I2.out, X2.out, B2.out⟩
      case measure => rw [HP.out, iterPos_of I2.out]; omega
    · obtain rfl : pos = 1 := by omega
      have hnx : ∀ ty, (Instr.next (.pointer (some ⟨q + 1, 0, none⟩)) true ty).run Try.prog wr = .ok (.tuple #[.bool false]) wr := fun ty => Lib.run_next_end_at wr (q + 1) ⟨#[120]⟩ 1 ty HI.out (by decide)
      have e0 := cell_of_block HX.out 0
      have e1 := cell_of_block HX.out 1
      have e2 := cell_of_block HX.out 2
      have hk1 : (1 : Int) ≤ (k : Int) := by omega
      have hk2 : (k : Int) ≤ 65535 := by omega
      go_wp2_with fail
      go_ret
      exact ⟨rfl, by rw [HQ.out]; exact HB.out⟩
end Go.Proofs.Ytjjldphbflbbdaa
