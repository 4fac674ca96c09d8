/-
  Layer 26: Lines by contract.
-/
import Derived.Test.YtnnggchkdffpnaaDoorRCents6
import Derived.Test.YtnnggchkdffpnaaDoorShG3
import Derived.Test.YtnnggchkdffpnaaDoorShift4
import Derived.Test.YtnnggchkdffpnaaDoorKitRow
import Derived.Test.YtnnggchkdffpnaaDoorActS
import Derived.Deep.CutBlock
--import Derived.Test.Zdbg
namespace Go.Proofs.YtnnggchkdffpnaaDoor
set_option linter.unusedSimpArgs false
set_option linter.unusedVariables false
open Go.RowKit Go.WideShapes Go.ChangeShapes Go.ChangeAt Go.Deep
theorem itoa_any (n : Int) (hn : inR n) (w : World) (htab : Tab w) : Calls Tryd.prog 15 #[.int .i64 n] w fun e w' => e = .returned (.string (sb (Lib.itoa n))) ∧ Below w.heap.size w w' := by
  refine (Tryd.strconv_Itoa n hn.1 hn.2 w htab).mono ?_
  rintro e w' ⟨rfl, k, os, rfl⟩
  exact ⟨rfl, (below_drewN (Below.refl w.heap.size w) k).trans (below_grow (w.drewN k) os)⟩
theorem itoa_sz (n : Int) (hn : inR n) : (sb (Lib.itoa n)).size ≤ 21 := Lib.itoa_length_le n hn.1 hn.2
theorem cText_sz (c : Int) (hc : inR c) : (sb (cText c)).size ≤ 30 := by
  rw [sb_size, cText_len]
  have h1 : (sgnL c).length ≤ 1 := by unfold sgnL; split <;> simp
  have h2 : (Lib.decDigits (c.natAbs / 100)).length ≤ 20 := by
    rw [Lib.decDigits_length]
    exact Lib.nDigits_le20 _ (by unfold inR at hc; omega)
  omega
theorem one_str (s : ByteArray) : ∀ u ∈ [Value.string s], u.oneCell' = true := by
  intro u hu
  rw [List.mem_singleton.1 hu]
  rfl
/-- the end of a report -/
def lastT (t : TotM) : ByteArray := if sumE (t.s + t.i - t.v - t.r - t.o) = 0 then (⟨#[116, 105, 108, 108, 32]⟩ : ByteArray) ++ sb (cText (sumV (t.s + t.i - t.v - t.r - t.o))) else (⟨#[116, 105, 108, 108, 32, 111, 118, 101, 114]⟩ : ByteArray)
def howT (M : ShM) (n : Int) : ByteArray := if n = shOpen M then (⟨#[111, 112, 101, 110]⟩ : ByteArray) else (⟨#[99, 108, 111, 115, 101, 100]⟩ : ByteArray)
def linesT (n : Int) (how : ByteArray) (t : TotM) : List ByteArray :=
  [((⟨#[115, 104, 105, 102, 116, 32]⟩ : ByteArray) ++ sb (Lib.itoa n)) ++ (⟨#[32]⟩ : ByteArray) ++ how, (⟨#[99, 111, 117, 110, 116, 32]⟩ : ByteArray) ++ sb (Lib.itoa t.c), (⟨#[115, 97, 108, 101, 115, 32]⟩ : ByteArray) ++ sb (cText t.s), (⟨#[118, 111, 105, 100, 115, 32]⟩ : ByteArray) ++ sb (cText t.v), (⟨#[114, 101, 102, 117, 110, 100, 115, 32]⟩ : ByteArray) ++ sb (cText t.r), (⟨#[105, 110, 115, 32]⟩ : ByteArray) ++ sb (cText t.i), (⟨#[111, 117, 116, 32]⟩ : ByteArray) ++ sb (cText t.o), lastT t]
theorem sp_0 : (⟨#[115, 97, 108, 101, 115]⟩ : ByteArray) ++ (⟨#[32]⟩ : ByteArray) = (⟨#[115, 97, 108, 101, 115, 32]⟩ : ByteArray) := by kernel_rfl
theorem sp_1 : (⟨#[118, 111, 105, 100, 115]⟩ : ByteArray) ++ (⟨#[32]⟩ : ByteArray) = (⟨#[118, 111, 105, 100, 115, 32]⟩ : ByteArray) := by kernel_rfl
theorem sp_2 : (⟨#[114, 101, 102, 117, 110, 100, 115]⟩ : ByteArray) ++ (⟨#[32]⟩ : ByteArray) = (⟨#[114, 101, 102, 117, 110, 100, 115, 32]⟩ : ByteArray) := by kernel_rfl
theorem sp_3 : (⟨#[105, 110, 115]⟩ : ByteArray) ++ (⟨#[32]⟩ : ByteArray) = (⟨#[105, 110, 115, 32]⟩ : ByteArray) := by kernel_rfl
theorem sp_4 : (⟨#[111, 117, 116]⟩ : ByteArray) ++ (⟨#[32]⟩ : ByteArray) = (⟨#[111, 117, 116, 32]⟩ : ByteArray) := by kernel_rfl
theorem sp_t : (⟨#[116, 105, 108, 108, 32]⟩ : ByteArray) ++ (⟨#[111, 118, 101, 114]⟩ : ByteArray) = (⟨#[116, 105, 108, 108, 32, 111, 118, 101, 114]⟩ : ByteArray) := by kernel_rfl
theorem ix5_0 (x0 x1 x2 x3 x4 : Value) (w : World) : (Instr.index 59 (.agg #[x0, x1, x2, x3, x4]) (.int .i64 0)).run Tryd.prog w = .ok x0 w := by kernel_rfl
theorem ix5_1 (x0 x1 x2 x3 x4 : Value) (w : World) : (Instr.index 59 (.agg #[x0, x1, x2, x3, x4]) (.int .i64 1)).run Tryd.prog w = .ok x1 w := by kernel_rfl
theorem ix5_2 (x0 x1 x2 x3 x4 : Value) (w : World) : (Instr.index 59 (.agg #[x0, x1, x2, x3, x4]) (.int .i64 2)).run Tryd.prog w = .ok x2 w := by kernel_rfl
theorem ix5_3 (x0 x1 x2 x3 x4 : Value) (w : World) : (Instr.index 59 (.agg #[x0, x1, x2, x3, x4]) (.int .i64 3)).run Tryd.prog w = .ok x3 w := by kernel_rfl
theorem ix5_4 (x0 x1 x2 x3 x4 : Value) (w : World) : (Instr.index 59 (.agg #[x0, x1, x2, x3, x4]) (.int .i64 4)).run Tryd.prog w = .ok x4 w := by kernel_rfl
/-- the k-th sum: its word, its amount -/
theorem sum_at (xc xs xv xr xi xo n : Int) (how : ByteArray) (hs : inR xs) (hv : inR xv) (hr : inR xr) (hi : inR xi) (ho : inR xo) (k : Nat) (hk : k < 5) :
    ∃ (wd : ByteArray) (am : Int), (#[.string (⟨#[115, 97, 108, 101, 115]⟩ : ByteArray), .string (⟨#[118, 111, 105, 100, 115]⟩ : ByteArray), .string (⟨#[114, 101, 102, 117, 110, 100, 115]⟩ : ByteArray), .string (⟨#[105, 110, 115]⟩ : ByteArray), .string (⟨#[111, 117, 116]⟩ : ByteArray)] : Array Value)[k]? = some (.string wd) ∧ (∀ W, (Instr.index 59 (.agg #[.int .i64 xs, .int .i64 xv, .int .i64 xr, .int .i64 xi, .int .i64 xo]) (.int .i64 (k : Int))).run Tryd.prog W = .ok (.int .i64 am) W) ∧ wd.size ≤ 8 ∧ inR am ∧ (linesT n how ⟨xc, xs, xv, xr, xi, xo⟩).take (2 + (k + 1)) = (linesT n how ⟨xc, xs, xv, xr, xi, xo⟩).take (2 + k) ++ [(wd ++ (⟨#[32]⟩ : ByteArray)) ++ sb (cText am)] := by
  have hc : k = 0 ∨ k = 1 ∨ k = 2 ∨ k = 3 ∨ k = 4 := by omega
  rcases hc with rfl | rfl | rfl | rfl | rfl
  · exact ⟨_, xs, rfl, fun W => ix5_0 _ _ _ _ _ W, by decide, hs, by rw [sp_0]; rfl⟩
  · exact ⟨_, xv, rfl, fun W => ix5_1 _ _ _ _ _ W, by decide, hv, by rw [sp_1]; rfl⟩
  · exact ⟨_, xr, rfl, fun W => ix5_2 _ _ _ _ _ W, by decide, hr, by rw [sp_2]; rfl⟩
  · exact ⟨_, xi, rfl, fun W => ix5_3 _ _ _ _ _ W, by decide, hi, by rw [sp_3]; rfl⟩
  · exact ⟨_, xo, rfl, fun W => ix5_4 _ _ _ _ _ W, by decide, ho, by rw [sp_4]; rfl⟩
theorem words_any (w : World) : Calls Tryd.prog 20 #[] w fun e w' => e = .returned (.agg #[.string (⟨#[115, 97, 108, 101, 115]⟩ : ByteArray), .string (⟨#[118, 111, 105, 100, 115]⟩ : ByteArray), .string (⟨#[114, 101, 102, 117, 110, 100, 115]⟩ : ByteArray), .string (⟨#[105, 110, 115]⟩ : ByteArray), .string (⟨#[111, 117, 116]⟩ : ByteArray)]) ∧ Below w.heap.size w w' := by
  go_enter Tryd.func20, Tryd.ntmps20
  go_wp2_with (refine rw_store rfl 64 (.tmp 0) (.tmp 1) rfl w.heap.size rfl (#[.string (⟨#[115, 97, 108, 101, 115]⟩ : ByteArray), .string (⟨#[118, 111, 105, 100, 115]⟩ : ByteArray), .string (⟨#[114, 101, 102, 117, 110, 100, 115]⟩ : ByteArray), .string (⟨#[105, 110, 115]⟩ : ByteArray), .string (⟨#[111, 117, 116]⟩ : ByteArray)] : Array Value) rfl _ (heap_new w _) (by kernel_rfl) rfl (by simp [Value.oneCell']) ?_)
  refine bodyPost_ret (results_cell_row (P := Tryd.prog) rfl _ _ w.heap.size 64 (#[.string (⟨#[115, 97, 108, 101, 115]⟩ : ByteArray), .string (⟨#[118, 111, 105, 100, 115]⟩ : ByteArray), .string (⟨#[114, 101, 102, 117, 110, 100, 115]⟩ : ByteArray), .string (⟨#[105, 110, 115]⟩ : ByteArray), .string (⟨#[111, 117, 116]⟩ : ByteArray)] : Array Value) (0, 0) _ rfl (setRow_same (cs := (#[.string (⟨#[115, 97, 108, 101, 115]⟩ : ByteArray), .string (⟨#[118, 111, 105, 100, 115]⟩ : ByteArray), .string (⟨#[114, 101, 102, 117, 110, 100, 115]⟩ : ByteArray), .string (⟨#[105, 110, 115]⟩ : ByteArray), .string (⟨#[111, 117, 116]⟩ : ByteArray)] : Array Value)) (heap_new w _)) Tryd.underlying64 rfl (by kernel_rfl)) rfl ?_
  exact ⟨rfl, setRow_below ((Below.refl w.heap.size w).alloc (Nat.le_refl _) _) (Nat.le_refl _) (by simp) _⟩
theorem shtot_none (n : Int) (w : World) : Calls Tryd.prog 11 #[.pointer none, .int .i64 n] w fun e w' => e = .returned (.tuple #[.agg #[.int .i64 0, .int .i64 0, .int .i64 0, .int .i64 0, .int .i64 0, .int .i64 0], .bool false]) ∧ Below w.heap.size w w' := by
  go_enter Tryd.func11, Tryd.ntmps11
  go_wp2_with fail
  refine bodyPost_ret (res_ct (P := Tryd.prog) rfl _ _ w.heap.size 34 #[.int .i64 0, .int .i64 0, .int .i64 0, .int .i64 0, .int .i64 0, .int .i64 0] (0, 0) _ rfl (heap_new w (.cells #[.int .i64 0, .int .i64 0, .int .i64 0, .int .i64 0, .int .i64 0, .int .i64 0] 34)) Tryd.underlying34 rfl (by kernel_rfl)) rfl ?_
  exact ⟨rfl, (Below.refl _ _).alloc (Nat.le_refl _) _⟩
theorem lines_none (w : World) : Calls Tryd.prog 10 #[.pointer none, .int .i64 1] w fun e w' => e = .returned (.slice none 0 0) ∧ Below w.heap.size w w' := by
  go_enter Tryd.func10, Tryd.ntmps10
  go_wp2_with fail
  refine (shtot_none 1 w).mono ?_
  rintro e w1 ⟨rfl, hb⟩
  go_wp2_with (refine rw_store rfl 34 (.tmp 5) (.tmp 19) rfl w1.heap.size rfl (#[.int .i64 0, .int .i64 0, .int .i64 0, .int .i64 0, .int .i64 0, .int .i64 0] : Array Value) rfl _ (heap_new w1 _) (by kernel_rfl) rfl (by simp [Value.oneCell']) ?_)
  go_ret
  exact ⟨rfl, hb.trans ((setRow_below ((Below.refl w1.heap.size w1).alloc (Nat.le_refl _) _) (Nat.le_refl _) (by simp) _).mono hb.size)⟩
def LinesIs (M : ShM) (n : Int) (w : World) (e : Ending) (w' : World) : Prop :=
  (shTot M n = none ∧ e = .returned (.slice none 0 0) ∧ Below w.heap.size w w') ∨
  (∃ (t : TotM) (g c : Nat), shTot M n = some t ∧ e = .returned (.slice (some ⟨g, 0, none⟩) 8 c) ∧ w'.ownsRow w.heap.size 9 1 (.slice (some ⟨g, 0, none⟩) 8 c) 8 ((linesT n (howT M n) t).map Value.string) ∧ Below w.heap.size w w')
theorem tot_fields {t : TotM} (h : TotOk t) : inR t.c ∧ inR t.s ∧ inR t.v ∧ inR t.r ∧ inR t.i ∧ inR t.o := by
  obtain ⟨h1, h2, h3, h4, h5, h6⟩ := h
  refine ⟨by unfold inR; omega, okR h2, okR h3, okR h4, okR h5, okR h6⟩
set_option maxRecDepth 100000 in
set_option maxHeartbeats 8000000 in
theorem lines_any (B p : Nat) (M : ShM) (V : Value) (n : Int) (hn : inR n) (w : World) (h : ShIs w B p M V) (htab : Tab w) :
    Calls Tryd.prog 10 #[.pointer (some ⟨p, 0, none⟩), .int .i64 n] w (LinesIs M n w) := by
  obtain ⟨i0, hi, hz0, hz1, hz2⟩ := info_parts (show (Tryd.prog.info? 9).map (fun i => (i.zero, i.size, i.bytes)) = some (some (.string ⟨#[]⟩), 1, 16) by kernel_rfl)
  have HI := hide hi
  have HZ0 := hide hz0
  have HZ1 := hide hz1
  have HZ2 := hide hz2
  clear hi hz0 hz1 hz2
  have HTO := hide (fun W (hW : ShIs W B p M V) => shtot_any n hn B p M V W hW)
  have HOP := hide (fun W (hW : ShIs W B p M V) => shopen_any B p M V W hW)
  have HOK := hide (fun t (ht : shTot M n = some t) => tot_fields (shTot_ok h.ok ht))
  have SH := hide h
  have HT := hide htab
  have HHOW := hide (show ∀ b : Bool, (n = shOpen M ↔ b = true) → howT M n = if b = true then (⟨#[111, 112, 101, 110]⟩ : ByteArray) else (⟨#[99, 108, 111, 115, 101, 100]⟩ : ByteArray) from fun b hb => by
    unfold howT
    cases b
    · rw [if_neg (fun e => by have := hb.1 e; cases this)]; rfl
    · rw [if_pos (hb.2 rfl)]; rfl)
  have HI1 := hide (fun W (hW : Tab W) => itoa_any n hn W hW)
  have HS1 := hide (itoa_sz n hn)
  have HNN := hide hn
  unfold STotIs at HTO
  unfold LinesIs
  clear h htab hn
  go_enter Tryd.func10, Tryd.ntmps10
  go_wp2_with fail
  refine (HTO.out _ SH.out).mono ?_
  rintro e w1 ⟨rfl, hb⟩
  have SH1 := hide (SH.out.below hb)
  have T1 := hide (tab_below HT.out hb)
  have B1 := hide hb
  clear hb SH HTO
  cases ho : shTot M n with
  | none =>
    simp only [Option.getD_none, Option.isSome_none]
    unfold totV tot0
    dsimp only
    go_wp2_with (refine rw_store rfl 34 (.tmp 5) (.tmp 19) rfl w1.heap.size rfl (#[.int .i64 0, .int .i64 0, .int .i64 0, .int .i64 0, .int .i64 0, .int .i64 0] : Array Value) rfl _ (heap_new w1 _) (by kernel_rfl) rfl (by simp [Value.oneCell']) ?_)
    go_ret
    exact .inl ⟨ho, rfl, B1.out.trans ((setRow_below ((Below.refl w1.heap.size w1).alloc (Nat.le_refl _) _) (Nat.le_refl _) (by simp) _).mono B1.out.size)⟩
  | some t =>
    have HOK := hide (HOK.out t ho)
    obtain ⟨xc, xs, xv, xr, xi, xo⟩ := t
    dsimp only at HOK
    simp only [Option.getD_some, Option.isSome_some]
    unfold totV
    dsimp only
    have HSO := hide ho
    clear ho
    go_upto_region 2 with (refine rw_store rfl 34 (.tmp 5) (.tmp 19) rfl w1.heap.size rfl (#[.int .i64 xc, .int .i64 xs, .int .i64 xv, .int .i64 xr, .int .i64 xi, .int .i64 xo] : Array Value) rfl _ (heap_new w1 _) (by kernel_rfl) rfl (by simp [Value.oneCell']) ?_)
    have XB := hide (heap_new w1 (.cells #[.int .i64 0, .int .i64 0, .int .i64 0, .int .i64 0, .int .i64 0, .int .i64 0] 34))
    have hal := (Below.refl w1.heap.size w1).alloc (Nat.le_refl _) (.cells #[.int .i64 0, .int .i64 0, .int .i64 0, .int .i64 0, .int .i64 0, .int .i64 0] 34)
    have hbb := setRow_below (hal.trans (Below.refl _ _)) (Nat.le_refl _) hal.size (#[.int .i64 xc, .int .i64 xs, .int .i64 xv, .int .i64 xr, .int .i64 xi, .int .i64 xo] : Array Value)
    have X2 := hide (setRow_same (cs := (#[.int .i64 xc, .int .i64 xs, .int .i64 xv, .int .i64 xr, .int .i64 xi, .int .i64 xo] : Array Value)) XB.out)
    have SH2 := hide (SH1.out.below hbb)
    have T2 := hide (tab_below T1.out hbb)
    have B2 := hide (B1.out.trans (hbb.mono B1.out.size))
    clear hal hbb XB SH1 T1 B1
    generalize (w1.alloc (.cells #[.int .i64 0, .int .i64 0, .int .i64 0, .int .i64 0, .int .i64 0, .int .i64 0] 34)).setRow w1.heap.size (#[.int .i64 xc, .int .i64 xs, .int .i64 xv, .int .i64 xr, .int .i64 xi, .int .i64 xo] : Array Value) = w2 at *
    generalize w1.heap.size = tb at *
    go_wp2_with fail
    refine (HOP.out _ SH2.out).mono ?_
    rintro e w3 ⟨rfl, rfl⟩
    obtain ⟨sn, hsn⟩ : ∃ sn, shOpen M = sn := ⟨_, rfl⟩
    rw [hsn] at HHOW ⊢
    clear hsn HOP SH2
    go_upto_if 26 with (fail)
    go_cut [7] from 23 to 69 (fun s7 W => s7 = .string (howT M n) ∧ W = w2)
    case first =>
      by_cases hns : n = sn
      · have g1 : (n == sn) = true := beq_iff_eq.mpr hns
        have HH := hide (HHOW.out true ⟨fun _ => rfl, fun _ => hns⟩)
        clear hns
        go_wp2_with fail
        go_meet
        exact ⟨by rw [HH.out]; rfl, rfl⟩
      · have g1 : (n == sn) = false := beq_eq_false_iff_ne.mpr hns
        have HH := hide (HHOW.out false ⟨fun e => absurd e hns, fun e => by cases e⟩)
        clear hns
        go_wp2_with fail
        go_meet
        exact ⟨by rw [HH.out]; rfl, rfl⟩
    case rest =>
    obtain ⟨rfl, rfl⟩ := hcut
    obtain ⟨how, hhow, hhz⟩ : ∃ how, howT M n = how ∧ how.size ≤ 8 := ⟨_, rfl, by unfold howT; split <;> decide⟩
    have HHW := hide hhow
    rw [hhow]
    clear hhow HHOW
    have HI2 := hide (fun W (hW : Tab W) => itoa_any xc HOK.out.1 W hW)
    have HS2 := hide (itoa_sz xc HOK.out.1)
    obtain ⟨I1, hI1⟩ : ∃ I1, sb (Lib.itoa n) = I1 := ⟨_, rfl⟩
    obtain ⟨I2, hI2⟩ : ∃ I2, sb (Lib.itoa xc) = I2 := ⟨_, rfl⟩
    rw [hI1] at HI1 HS1
    rw [hI2] at HI2 HS2
    have HE1 := hide hI1
    have HE2 := hide hI2
    clear hI1 hI2
    have hs1 := HS1.out
    have hs2 := HS2.out
    have q0 : ¬ 9223372036854775807 < 6 + I1.size := by omega
    have q1 : ¬ 9223372036854775807 < 6 + I1.size + 1 := by omega
    have q2 : ¬ 9223372036854775807 < 6 + I1.size + 1 + how.size := by omega
    have q3 : ¬ 9223372036854775807 < 6 + I2.size := by omega
    clear hs1 hs2 hhz
    go_upto_region 7 with (fail)
    obtain ⟨wq, hwq⟩ : ∃ wq, wq = wc := ⟨_, rfl⟩
    rw [← hwq] at X2 T2 B2 ⊢
    clear hwq
    have X0 := hide (show wq.drew.heap[tb]? = _ from X2.out)
    have T0 := hide (show Tab wq.drew from tab_below T2.out (Below.refl _ _).drew)
    have B0 := hide B2.out.drew
    clear X2 T2 B2
    refine wp_region_held_drew (S := (fun W => W.heap[tb]? = some (.cells #[.int .i64 xc, .int .i64 xs, .int .i64 xv, .int .i64 xr, .int .i64 xi, .int .i64 xo] 34 (0, 0)) ∧ Tab W)) (by kernel_rfl) (⟨X0.out, T0.out⟩) (fun hHeld => ?_)
    generalize wq.drew = v0 at *
    refine wpAnyH_take (i := 0) (oi := { dst := some 27, op := Op.move (Operand.tmp 1), type := 3, pos := "shift.go:156", after := #[], guard := none }) (v := ?_) rfl (by kernel_rfl) (by kernel_rfl) (by kernel_rfl) (fun _ _ _ h => h) (Or.inl ⟨by kernel_rfl, ?_⟩) hHeld ?_
    rotate_left
    · (intro w hSw; (try dsimp only at hSw); have e0 := cell_of_block hSw.1 0; go_simp); try with_reducible rfl
    try simp only [Act.put, List.setIfInBounds_toArray, List.set_cons_zero, List.set_cons_succ]
    refine wpAnyH_take (i := 4) (oi := { dst := some 31, op := Op.move (Operand.tmp 7), type := 9, pos := "shift.go:156", after := #[], guard := none }) (v := ?_) rfl (by kernel_rfl) (by kernel_rfl) (by kernel_rfl) (fun _ _ _ h => h) (Or.inl ⟨by kernel_rfl, ?_⟩) hHeld ?_
    rotate_left
    · (intro w hSw; (try dsimp only at hSw); have e0 := cell_of_block hSw.1 0; go_simp); try with_reducible rfl
    try simp only [Act.put, List.setIfInBounds_toArray, List.set_cons_zero, List.set_cons_succ]
    refine wpAnyH_take (i := 6) (oi := { dst := some 33, op := Op.fieldAddr 34 (Operand.tmp 5) 0, type := 0, pos := "shift.go:156", after := #[], guard := none }) (v := ?_) rfl (by kernel_rfl) (by kernel_rfl) (by kernel_rfl) (fun _ _ _ h => h) (Or.inl ⟨by kernel_rfl, ?_⟩) hHeld ?_
    rotate_left
    · (intro w hSw; (try dsimp only at hSw); have e0 := cell_of_block hSw.1 0; go_simp); try with_reducible rfl
    try simp only [Act.put, List.setIfInBounds_toArray, List.set_cons_zero, List.set_cons_succ]
    refine wpAnyH_take (i := 7) (oi := { dst := some 34, op := Op.load 3 (Operand.tmp 33), type := 3, pos := "shift.go:156", after := #[{ on := 6, ground := Ground.data }], guard := none }) (v := ?_) rfl (by kernel_rfl) (by kernel_rfl) (by kernel_rfl) (fun _ _ _ h => h) (Or.inl ⟨by kernel_rfl, ?_⟩) hHeld ?_
    rotate_left
    · (intro w hSw; (try dsimp only at hSw); have e0 := cell_of_block hSw.1 0; go_simp); try with_reducible rfl
    try simp only [Act.put, List.setIfInBounds_toArray, List.set_cons_zero, List.set_cons_succ]
    refine wpAnyH_ready (rs := [1]) (by kernel_rfl) (by simp) (AllReadyH.cons (o := { dst := some 28, op := Op.call { callee := Callee.value (Operand.func 15), args := #[Operand.tmp 27], argTypes := #[3] }, type := 9, pos := "shift.go:156", after := #[{ on := 0, ground := Ground.data }], guard := none }) rfl (fun K hK => ?_) AllReadyH.nil)
    have hOld := hide hHeld
    clear hHeld
    go_simp
    refine (HI1.out _ T0.out).mono ?_
    rintro e v1 ⟨rfl, hb⟩
    have X1 := hide ((hb.block _ (heap_lt X0.out)).trans X0.out)
    have T1 := hide (tab_below T0.out hb)
    have B1 := hide (B0.out.trans (hb.mono B0.out.size))
    clear hb
    (try go_wp2_with fail)
    refine hK.out _ _ (⟨X1.out, T1.out⟩) (fun hHeld => ?_)
    clear hK K hOld
    try simp only [Act.put, List.setIfInBounds_toArray, List.set_cons_zero, List.set_cons_succ]
    refine wpAnyH_take (i := 2) (oi := { dst := some 29, op := Op.binOp BinOp.add 9 (Operand.const (Value.string { data := #[115, 104, 105, 102, 116, 32] })) (Operand.tmp 28) 9, type := 9, pos := "shift.go:156", after := #[{ on := 1, ground := Ground.data }], guard := none }) (v := ?_) rfl (by kernel_rfl) (by kernel_rfl) (by kernel_rfl) (fun _ _ _ h => h) (Or.inl ⟨by kernel_rfl, ?_⟩) hHeld ?_
    rotate_left
    · (intro w hSw; (try dsimp only at hSw); have e0 := cell_of_block hSw.1 0; go_simp); try with_reducible rfl
    try simp only [Act.put, List.setIfInBounds_toArray, List.set_cons_zero, List.set_cons_succ]
    refine wpAnyH_take (i := 3) (oi := { dst := some 30, op := Op.binOp BinOp.add 9 (Operand.tmp 29) (Operand.const (Value.string { data := #[32] })) 9, type := 9, pos := "shift.go:156", after := #[{ on := 2, ground := Ground.data }], guard := none }) (v := ?_) rfl (by kernel_rfl) (by kernel_rfl) (by kernel_rfl) (fun _ _ _ h => h) (Or.inl ⟨by kernel_rfl, ?_⟩) hHeld ?_
    rotate_left
    · (intro w hSw; (try dsimp only at hSw); have e0 := cell_of_block hSw.1 0; go_simp); try with_reducible rfl
    try simp only [Act.put, List.setIfInBounds_toArray, List.set_cons_zero, List.set_cons_succ]
    refine wpAnyH_take (i := 5) (oi := { dst := some 32, op := Op.binOp BinOp.add 9 (Operand.tmp 30) (Operand.tmp 31) 9, type := 9, pos := "shift.go:156", after := #[{ on := 3, ground := Ground.data }, { on := 4, ground := Ground.data }], guard := none }) (v := ?_) rfl (by kernel_rfl) (by kernel_rfl) (by kernel_rfl) (fun _ _ _ h => h) (Or.inl ⟨by kernel_rfl, ?_⟩) hHeld ?_
    rotate_left
    · (intro w hSw; (try dsimp only at hSw); have e0 := cell_of_block hSw.1 0; go_simp); try with_reducible rfl
    try simp only [Act.put, List.setIfInBounds_toArray, List.set_cons_zero, List.set_cons_succ]
    refine wpAnyH_ready (rs := [8]) (by kernel_rfl) (by simp) (AllReadyH.cons (o := { dst := some 35, op := Op.call { callee := Callee.value (Operand.func 15), args := #[Operand.tmp 34], argTypes := #[3] }, type := 9, pos := "shift.go:156", after := #[{ on := 7, ground := Ground.data }, { on := 1, ground := Ground.chain }], guard := none }) rfl (fun K hK => ?_) AllReadyH.nil)
    have hOld := hide hHeld
    clear hHeld
    go_simp
    refine (HI2.out _ T1.out).mono ?_
    rintro e v2 ⟨rfl, hb⟩
    have X2 := hide ((hb.block _ (heap_lt X1.out)).trans X1.out)
    have T2 := hide (tab_below T1.out hb)
    have B2 := hide (B1.out.trans (hb.mono B1.out.size))
    clear hb
    (try go_wp2_with fail)
    refine hK.out _ _ (⟨X2.out, T2.out⟩) (fun hHeld => ?_)
    clear hK K hOld
    try simp only [Act.put, List.setIfInBounds_toArray, List.set_cons_zero, List.set_cons_succ]
    refine wpAnyH_take (i := 9) (oi := { dst := some 36, op := Op.binOp BinOp.add 9 (Operand.const (Value.string { data := #[99, 111, 117, 110, 116, 32] })) (Operand.tmp 35) 9, type := 9, pos := "shift.go:156", after := #[{ on := 8, ground := Ground.data }], guard := none }) (v := ?_) rfl (by kernel_rfl) (by kernel_rfl) (by kernel_rfl) (fun _ _ _ h => h) (Or.inl ⟨by kernel_rfl, ?_⟩) hHeld ?_
    rotate_left
    · (intro w hSw; (try dsimp only at hSw); have e0 := cell_of_block hSw.1 0; go_simp); try with_reducible rfl
    try simp only [Act.put, List.setIfInBounds_toArray, List.set_cons_zero, List.set_cons_succ]
    refine wpAnyH_ready (rs := [10]) (by kernel_rfl) (by simp) (AllReadyH.cons (o := { dst := some 37, op := Op.buildSlice 41 2 #[(0, Operand.tmp 32), (1, Operand.tmp 36)], type := 41, pos := "shift.go:156", after := #[{ on := 5, ground := Ground.data }, { on := 9, ground := Ground.data }], guard := none }) rfl (fun K hK => ?_) AllReadyH.nil)
    have hOld := hide hHeld
    clear hHeld
    go_simp
    have hal := (Below.refl v2.heap.size v2).alloc (Nat.le_refl _) (.cells #[.string (((⟨#[115, 104, 105, 102, 116, 32]⟩ : ByteArray) ++ I1) ++ (⟨#[32]⟩ : ByteArray) ++ how), .string ((⟨#[99, 111, 117, 110, 116, 32]⟩ : ByteArray) ++ I2)] 9)
    have XL3 := hide (heap_new v2 (.cells #[.string (((⟨#[115, 104, 105, 102, 116, 32]⟩ : ByteArray) ++ I1) ++ (⟨#[32]⟩ : ByteArray) ++ how), .string ((⟨#[99, 111, 117, 110, 116, 32]⟩ : ByteArray) ++ I2)] 9))
    have X3 := hide ((hal.block _ (heap_lt X2.out)).trans X2.out)
    have T3 := hide (tab_alloc T2.out (.cells #[.string (((⟨#[115, 104, 105, 102, 116, 32]⟩ : ByteArray) ++ I1) ++ (⟨#[32]⟩ : ByteArray) ++ how), .string ((⟨#[99, 111, 117, 110, 116, 32]⟩ : ByteArray) ++ I2)] 9))
    have B3 := hide (B2.out.trans (hal.mono B2.out.size))
    have HL3 := hide (show w.heap.size ≤ v2.heap.size from B2.out.size)
    clear hal
    generalize v2.alloc (.cells #[.string (((⟨#[115, 104, 105, 102, 116, 32]⟩ : ByteArray) ++ I1) ++ (⟨#[32]⟩ : ByteArray) ++ how), .string ((⟨#[99, 111, 117, 110, 116, 32]⟩ : ByteArray) ++ I2)] 9) = v3 at *
    generalize v2.heap.size = lb at *
    (try go_wp2_with fail)
    refine hK.out _ _ (⟨X3.out, T3.out⟩) (fun hHeld => ?_)
    clear hK K hOld
    try simp only [Act.put, List.setIfInBounds_toArray, List.set_cons_zero, List.set_cons_succ]
    refine wpAnyH_take (i := 11) (oi := { dst := some 8, op := Op.assign (Operand.tmp 37), type := 41, pos := "shift.go:156", after := #[{ on := 10, ground := Ground.data }, { on := 8, ground := Ground.chain }, { on := 0, ground := Ground.phase }, { on := 1, ground := Ground.phase }, { on := 2, ground := Ground.phase }, { on := 3, ground := Ground.phase }, { on := 4, ground := Ground.phase }, { on := 5, ground := Ground.phase }, { on := 6, ground := Ground.phase }, { on := 7, ground := Ground.phase }, { on := 8, ground := Ground.phase }, { on := 9, ground := Ground.phase }, { on := 10, ground := Ground.phase }], guard := none }) (v := ?_) rfl (by kernel_rfl) (by kernel_rfl) (by kernel_rfl) (fun _ _ _ h => h) (Or.inl ⟨by kernel_rfl, ?_⟩) hHeld ?_
    rotate_left
    · (intro w hSw; (try dsimp only at hSw); have e0 := cell_of_block hSw.1 0; go_simp); try with_reducible rfl
    try simp only [Act.put, List.setIfInBounds_toArray, List.set_cons_zero, List.set_cons_succ]
    refine wpAnyH_done (by kernel_rfl) ?_ _
    clear hHeld

    clear X0 X1 X2 T0 T1 T2 B0 B1 B2 q0 q1 q2 q3
    have O3 := hide (show v3.ownsRow w.heap.size 9 1 (.slice (some ⟨lb, 0, none⟩) 2 2) 2 (((linesT n how ⟨xc, xs, xv, xr, xi, xo⟩).take (2 + 0)).map Value.string) from by
      refine ⟨rfl, .inr ⟨lb, 2, _, rfl, HL3.out, XL3.out, Nat.le_refl _, by decide, ?_, ?_⟩⟩
      · rfl
      · unfold linesT
        rw [HE1.out, HE2.out]
        rfl)
    clear XL3
    have HWS0 := hide (fun W => words_any W)
    go_wp2_with fail
    refine (HWS0.out _).mono ?_
    rintro e w4 ⟨rfl, hb⟩
    have X4 := hide ((hb.block _ (heap_lt X3.out)).trans X3.out)
    have T4 := hide (tab_below T3.out hb)
    have O4 := hide (owns_below O3.out hb)
    have B4 := hide (B3.out.trans (hb.mono B3.out.size))
    clear hb X3 T3 O3 B3 HWS0
    go_upto_region 9 with (refine rw_store rfl 64 (.tmp 9) (.tmp 38) rfl w4.heap.size rfl (#[.string (⟨#[115, 97, 108, 101, 115]⟩ : ByteArray), .string (⟨#[118, 111, 105, 100, 115]⟩ : ByteArray), .string (⟨#[114, 101, 102, 117, 110, 100, 115]⟩ : ByteArray), .string (⟨#[105, 110, 115]⟩ : ByteArray), .string (⟨#[111, 117, 116]⟩ : ByteArray)] : Array Value) rfl _ (heap_new w4 _) (by kernel_rfl) rfl (by simp [Value.oneCell']) ?_)
    have XB := hide (heap_new w4 (.cells #[.string ⟨#[]⟩, .string ⟨#[]⟩, .string ⟨#[]⟩, .string ⟨#[]⟩, .string ⟨#[]⟩] 64))
    have hal := (Below.refl w4.heap.size w4).alloc (Nat.le_refl _) (.cells #[.string ⟨#[]⟩, .string ⟨#[]⟩, .string ⟨#[]⟩, .string ⟨#[]⟩, .string ⟨#[]⟩] 64)
    have hbb := setRow_below (hal.trans (Below.refl _ _)) (Nat.le_refl _) hal.size (#[.string (⟨#[115, 97, 108, 101, 115]⟩ : ByteArray), .string (⟨#[118, 111, 105, 100, 115]⟩ : ByteArray), .string (⟨#[114, 101, 102, 117, 110, 100, 115]⟩ : ByteArray), .string (⟨#[105, 110, 115]⟩ : ByteArray), .string (⟨#[111, 117, 116]⟩ : ByteArray)] : Array Value)
    have WB5 := hide (setRow_same (cs := (#[.string (⟨#[115, 97, 108, 101, 115]⟩ : ByteArray), .string (⟨#[118, 111, 105, 100, 115]⟩ : ByteArray), .string (⟨#[114, 101, 102, 117, 110, 100, 115]⟩ : ByteArray), .string (⟨#[105, 110, 115]⟩ : ByteArray), .string (⟨#[111, 117, 116]⟩ : ByteArray)] : Array Value)) XB.out)
    have X5 := hide ((hbb.block _ (heap_lt X4.out)).trans X4.out)
    have T5 := hide (tab_below T4.out hbb)
    have O5 := hide (owns_below O4.out hbb)
    have B5 := hide (B4.out.trans (hbb.mono B4.out.size))
    clear hal hbb XB X4 T4 O4 B4
    generalize (w4.alloc (.cells #[.string ⟨#[]⟩, .string ⟨#[]⟩, .string ⟨#[]⟩, .string ⟨#[]⟩, .string ⟨#[]⟩] 64)).setRow w4.heap.size (#[.string (⟨#[115, 97, 108, 101, 115]⟩ : ByteArray), .string (⟨#[118, 111, 105, 100, 115]⟩ : ByteArray), .string (⟨#[114, 101, 102, 117, 110, 100, 115]⟩ : ByteArray), .string (⟨#[105, 110, 115]⟩ : ByteArray), .string (⟨#[111, 117, 116]⟩ : ByteArray)] : Array Value) = w5 at *
    generalize w4.heap.size = wb at *
    have HSU := hide (fun W => sums_any xc xs xv xr xi xo W)
    unfold totA at HSU
    go_wp2_with (refine rw_load rfl 34 (.tmp 5) rfl tb rfl 34 (#[.int .i64 xc, .int .i64 xs, .int .i64 xv, .int .i64 xr, .int .i64 xi, .int .i64 xo] : Array Value) (0, 0) _ X5.out Tryd.underlying34 rfl (by kernel_rfl) ?_)
    refine (HSU.out _).mono ?_
    rintro e w6 ⟨rfl, hb⟩
    have WB6 := hide ((hb.block _ (heap_lt WB5.out)).trans WB5.out)
    have X6 := hide ((hb.block _ (heap_lt X5.out)).trans X5.out)
    have T6 := hide (tab_below T5.out hb)
    have O6 := hide (owns_below O5.out hb)
    have B6 := hide (B5.out.trans (hb.mono B5.out.size))
    clear hb WB5 X5 T5 O5 B5 HSU
    have HSM := hide (fun k hk => sum_at xc xs xv xr xi xo n how HOK.out.2.1 HOK.out.2.2.1 HOK.out.2.2.2.1 HOK.out.2.2.2.2.1 HOK.out.2.2.2.2.2 k hk)
    have HL8 := hide (show (linesT n how ⟨xc, xs, xv, xr, xi, xo⟩).take (2 + 5) ++ [lastT ⟨xc, xs, xv, xr, xi, xo⟩] = linesT n how ⟨xc, xs, xv, xr, xi, xo⟩ from rfl)
    have HLL := hide (show (linesT n how ⟨xc, xs, xv, xr, xi, xo⟩).length = 8 from rfl)
    obtain ⟨LT, hLT⟩ : ∃ LT, linesT n how ⟨xc, xs, xv, xr, xi, xo⟩ = LT := ⟨_, rfl⟩
    rw [hLT] at O6 HSM HL8 HLL
    have HLTQ := hide hLT
    clear hLT
    have HTXF := hide (fun am (ham : inR am) W (hW : Tab W) => ctext_any am ham W hW)
    go_wp2_with fail
    go_loopw [8, 41] (fun l i W => ∃ (k n8 g c8 : Nat) (LK : List ByteArray), k ≤ 5 ∧ i = .int .i64 k ∧ n8 = 2 + k ∧ LK = LT.take n8 ∧ l = .slice (some ⟨g, 0, none⟩) n8 c8 ∧ W.heap[tb]? = some (.cells #[.int .i64 xc, .int .i64 xs, .int .i64 xv, .int .i64 xr, .int .i64 xi, .int .i64 xo] 34 (0, 0)) ∧ W.heap[wb]? = some (.cells #[.string (⟨#[115, 97, 108, 101, 115]⟩ : ByteArray), .string (⟨#[118, 111, 105, 100, 115]⟩ : ByteArray), .string (⟨#[114, 101, 102, 117, 110, 100, 115]⟩ : ByteArray), .string (⟨#[105, 110, 115]⟩ : ByteArray), .string (⟨#[111, 117, 116]⟩ : ByteArray)] 64 (0, 0)) ∧ W.ownsRow w.heap.size 9 1 (.slice (some ⟨g, 0, none⟩) n8 c8) n8 (LK.map Value.string) ∧ Below w.heap.size w W) (fun _ i _ => 5 - (intOf i).toNat)
    case atStart => exact ⟨0, 2, lb, 2, _, by omega, rfl, rfl, rfl, rfl, X6.out, WB6.out, O6.out, B6.out⟩
    case round =>
    obtain ⟨k, n8, g, c8, LK, hk, rfl, hn8, hLK, rfl, hx, hwb, ho, hb⟩ := hrel
    have X9 := hide hx
    have WB9 := hide hwb
    have O9 := hide ho
    have B9 := hide hb
    have T9 := hide (tab_below HT.out B9.out)
    have HN8 := hide (show n8 ≤ 7 from by omega)
    have HNK := hide hn8
    have HLK := hide hLK
    clear hx hwb ho hb hn8 hLK X6 WB6 T6 O6 B6
    by_cases hlt : k < 5
    · obtain ⟨wd, am, hcell, hidx, hwz, ham, hline⟩ := HSM.out k hlt
      have HLN := hide hline
      have HTX := hide (fun W (hW : Tab W) => HTXF.out am ham W hW)
      have HTZ := hide (cText_sz am ham)
      obtain ⟨tx, htx⟩ : ∃ tx, sb (cText am) = tx := ⟨_, rfl⟩
      rw [htx] at HTX HTZ HLN
      clear htx hline
      have HKL := hide hlt
      have HCW := hide (fun (W : World) (h9 : W.heap[wb]? = some (.cells #[.string (⟨#[115, 97, 108, 101, 115]⟩ : ByteArray), .string (⟨#[118, 111, 105, 100, 115]⟩ : ByteArray), .string (⟨#[114, 101, 102, 117, 110, 100, 115]⟩ : ByteArray), .string (⟨#[105, 110, 115]⟩ : ByteArray), .string (⟨#[111, 117, 116]⟩ : ByteArray)] 64 (0, 0))) => (show W.cell? ⟨wb, k, none⟩ = some (.string wd) from by rw [cell_of_block h9]; exact hcell))
      have hki : (k : Int) < 5 := by omega
      clear hcell ham
      go_upto_region 12 with (fail)
      have htz := HTZ.out
      have q1 : ¬ 9223372036854775807 < wd.size + 1 := by omega
      have q2 : ¬ 9223372036854775807 < wd.size + 1 + tx.size := by omega
      clear htz hidx hwz
      have X0 := hide (show wr.drew.heap[tb]? = _ from X9.out)
      have WB0 := hide (show wr.drew.heap[wb]? = _ from WB9.out)
      have T0 := hide (show Tab wr.drew from tab_below T9.out (Below.refl _ _).drew)
      have O0 := hide (show wr.drew.ownsRow w.heap.size 9 1 _ _ _ from O9.out)
      have B0 := hide B9.out.drew
      have HCW0 := hide (HCW.out wr.drew WB0.out)
      clear X9 WB9 T9 O9 B9
      refine wp_region_held_drew (S := (fun W => W.cell? ⟨wb, k, none⟩ = some (.string wd))) (by kernel_rfl) (HCW0.out) (fun hHeld => ?_)
      generalize wr.drew = v0 at *
      refine wpAnyH_take (i := 0) (oi := { dst := some 45, op := Op.move (Operand.tmp 8), type := 41, pos := "shift.go:159", after := #[], guard := none }) (v := ?_) rfl (by kernel_rfl) (by kernel_rfl) (by kernel_rfl) (fun _ _ _ h => h) (Or.inl ⟨by kernel_rfl, ?_⟩) hHeld ?_
      rotate_left
      · (intro w hSw; (try dsimp only at hSw); go_simp); try with_reducible rfl
      try simp only [Act.put, List.setIfInBounds_toArray, List.set_cons_zero, List.set_cons_succ]
      refine wpAnyH_take (i := 1) (oi := { dst := some 46, op := Op.move (Operand.tmp 10), type := 3, pos := "shift.go:159", after := #[], guard := none }) (v := ?_) rfl (by kernel_rfl) (by kernel_rfl) (by kernel_rfl) (fun _ _ _ h => h) (Or.inl ⟨by kernel_rfl, ?_⟩) hHeld ?_
      rotate_left
      · (intro w hSw; (try dsimp only at hSw); go_simp); try with_reducible rfl
      try simp only [Act.put, List.setIfInBounds_toArray, List.set_cons_zero, List.set_cons_succ]
      refine wpAnyH_take (i := 2) (oi := { dst := some 47, op := Op.indexAddr 64 (Operand.tmp 9) (Operand.tmp 46), type := 0, pos := "shift.go:159", after := #[{ on := 1, ground := Ground.data }], guard := none }) (v := ?_) rfl (by kernel_rfl) (by kernel_rfl) (by kernel_rfl) (fun _ _ _ h => h) (Or.inl ⟨by kernel_rfl, ?_⟩) hHeld ?_
      rotate_left
      · (intro w hSw; (try dsimp only at hSw); go_simp); try with_reducible rfl
      try simp only [Act.put, List.setIfInBounds_toArray, List.set_cons_zero, List.set_cons_succ]
      refine wpAnyH_take (i := 3) (oi := { dst := some 48, op := Op.load 9 (Operand.tmp 47), type := 9, pos := "shift.go:159", after := #[{ on := 2, ground := Ground.data }], guard := none }) (v := ?_) rfl (by kernel_rfl) (by kernel_rfl) (by kernel_rfl) (fun _ _ _ h => h) (Or.inl ⟨by kernel_rfl, ?_⟩) hHeld ?_
      rotate_left
      · (intro w hSw; (try dsimp only at hSw); go_simp); try with_reducible rfl
      try simp only [Act.put, List.setIfInBounds_toArray, List.set_cons_zero, List.set_cons_succ]
      refine wpAnyH_take (i := 4) (oi := { dst := some 49, op := Op.binOp BinOp.add 9 (Operand.tmp 48) (Operand.const (Value.string { data := #[32] })) 9, type := 9, pos := "shift.go:159", after := #[{ on := 3, ground := Ground.data }], guard := none }) (v := ?_) rfl (by kernel_rfl) (by kernel_rfl) (by kernel_rfl) (fun _ _ _ h => h) (Or.inl ⟨by kernel_rfl, ?_⟩) hHeld ?_
      rotate_left
      · (intro w hSw; (try dsimp only at hSw); go_simp); try with_reducible rfl
      try simp only [Act.put, List.setIfInBounds_toArray, List.set_cons_zero, List.set_cons_succ]
      refine wpAnyH_take (i := 5) (oi := { dst := some 50, op := Op.move (Operand.tmp 11), type := 32, pos := "shift.go:159", after := #[], guard := none }) (v := ?_) rfl (by kernel_rfl) (by kernel_rfl) (by kernel_rfl) (fun _ _ _ h => h) (Or.inl ⟨by kernel_rfl, ?_⟩) hHeld ?_
      rotate_left
      · (intro w hSw; (try dsimp only at hSw); go_simp); try with_reducible rfl
      try simp only [Act.put, List.setIfInBounds_toArray, List.set_cons_zero, List.set_cons_succ]
      refine wpAnyH_ready (rs := [6]) (by kernel_rfl) (by simp) (AllReadyH.cons (o := { dst := some 51, op := Op.call { callee := Callee.value (Operand.func 21), args := #[Operand.tmp 50], argTypes := #[32] }, type := 9, pos := "shift.go:159", after := #[{ on := 5, ground := Ground.data }], guard := none }) rfl (fun K hK => ?_) AllReadyH.nil)
      have hOld := hide hHeld
      clear hHeld
      go_simp
      refine (HTX.out _ T0.out).mono ?_
      rintro e v1 ⟨rfl, hb⟩
      have WB1 := hide ((hb.block _ (heap_lt WB0.out)).trans WB0.out)
      have X1 := hide ((hb.block _ (heap_lt X0.out)).trans X0.out)
      have T1 := hide (tab_below T0.out hb)
      have O1 := hide (owns_below O0.out hb)
      have B1 := hide (B0.out.trans (hb.mono B0.out.size))
      clear hb
      have hc1 := cell_of_block WB1.out k
      (try go_wp2_with fail)
      refine hK.out _ _ (HCW.out _ WB1.out) (fun hHeld => ?_)
      clear hK K hOld
      try simp only [Act.put, List.setIfInBounds_toArray, List.set_cons_zero, List.set_cons_succ]
      refine wpAnyH_take (i := 7) (oi := { dst := some 52, op := Op.binOp BinOp.add 9 (Operand.tmp 49) (Operand.tmp 51) 9, type := 9, pos := "shift.go:159", after := #[{ on := 4, ground := Ground.data }, { on := 6, ground := Ground.data }], guard := none }) (v := ?_) rfl (by kernel_rfl) (by kernel_rfl) (by kernel_rfl) (fun _ _ _ h => h) (Or.inl ⟨by kernel_rfl, ?_⟩) hHeld ?_
      rotate_left
      · (intro w hSw; (try dsimp only at hSw); go_simp); try with_reducible rfl
      try simp only [Act.put, List.setIfInBounds_toArray, List.set_cons_zero, List.set_cons_succ]
      refine wpAnyH_ready (rs := [8]) (by kernel_rfl) (by simp) (AllReadyH.cons (o := { dst := some 53, op := Op.buildSlice 41 1 #[(0, Operand.tmp 52)], type := 41, pos := "shift.go:159", after := #[{ on := 7, ground := Ground.data }], guard := none }) rfl (fun K hK => ?_) AllReadyH.nil)
      have hOld := hide hHeld
      clear hHeld
      go_simp
      have hal := (Below.refl v1.heap.size v1).alloc (Nat.le_refl _) (.cells #[.string ((wd ++ (⟨#[32]⟩ : ByteArray)) ++ tx)] 9)
      have XN2 := hide (heap_new v1 (.cells #[.string ((wd ++ (⟨#[32]⟩ : ByteArray)) ++ tx)] 9))
      have WB2 := hide ((hal.block _ (heap_lt WB1.out)).trans WB1.out)
      have X2 := hide ((hal.block _ (heap_lt X1.out)).trans X1.out)
      have T2 := hide (tab_alloc T1.out (.cells #[.string ((wd ++ (⟨#[32]⟩ : ByteArray)) ++ tx)] 9))
      have O2 := hide (owns_below O1.out hal)
      have B2 := hide (B1.out.trans (hal.mono B1.out.size))
      have HWS := hide (show w.heap.size ≤ (v1.alloc (.cells #[.string ((wd ++ (⟨#[32]⟩ : ByteArray)) ++ tx)] 9)).heap.size from B2.out.size)
      clear hal
      generalize v1.alloc (.cells #[.string ((wd ++ (⟨#[32]⟩ : ByteArray)) ++ tx)] 9) = v2 at *
      generalize v1.heap.size = nb at *
      (try go_wp2_with fail)
      refine hK.out _ _ (HCW.out _ WB2.out) (fun hHeld => ?_)
      clear hK K hOld
      try simp only [Act.put, List.setIfInBounds_toArray, List.set_cons_zero, List.set_cons_succ]
      refine wpAnyH_ready (rs := [9]) (by kernel_rfl) (by simp) (AllReadyH.cons (o := { dst := some 54, op := Op.call { callee := Callee.builtin Builtin.append, args := #[Operand.tmp 45, Operand.tmp 53], argTypes := #[41, 41] }, type := 41, pos := "shift.go:159", after := #[{ on := 0, ground := Ground.data }, { on := 8, ground := Ground.data }, { on := 6, ground := Ground.chain }], guard := none }) rfl (fun K hK => ?_) AllReadyH.nil)
      have hOld := hide hHeld
      clear hHeld
      refine wp_append_own2 _ (.tmp 45) (.tmp 53) 41 rfl w.heap.size 9 i0 (.string ⟨#[]⟩) 1 16 Tryd.underlying41 HI.out HZ0.out HZ1.out HZ2.out rfl (by decide) (.slice (some ⟨g, 0, none⟩) n8 c8) n8 (LK.map Value.string) rfl O2.out ⟨nb, 0, none⟩ 1 1 (by decide) [.string ((wd ++ (⟨#[32]⟩ : ByteArray)) ++ tx)] rfl rfl (cells_new XN2.out) (one_str _) (by unfold maxLen; have := HN8.out; omega) (by have := HN8.out; omega) HWS.out ?_
      intro g3 c3' v3 ho hgr hnil
      have O3 := hide ho
      have WB3 := hide (grown_stays O2.out hgr WB2.out (by decide))
      have X3 := hide (grown_stays O2.out hgr X2.out (by decide))
      have B3 := hide (B2.out.grown hgr HWS.out (fun jj h => (O2.out.lt jj h).1))
      clear ho hgr hnil
      refine hK.out _ _ (HCW.out _ WB3.out) (fun hHeld => ?_)
      clear hK K hOld
      try simp only [Act.put, List.setIfInBounds_toArray, List.set_cons_zero, List.set_cons_succ]
      refine wpAnyH_take (i := 10) (oi := { dst := some 8, op := Op.assign (Operand.tmp 54), type := 41, pos := "shift.go:159", after := #[{ on := 9, ground := Ground.data }, { on := 9, ground := Ground.chain }, { on := 0, ground := Ground.phase }, { on := 1, ground := Ground.phase }, { on := 2, ground := Ground.phase }, { on := 3, ground := Ground.phase }, { on := 4, ground := Ground.phase }, { on := 5, ground := Ground.phase }, { on := 6, ground := Ground.phase }, { on := 7, ground := Ground.phase }, { on := 8, ground := Ground.phase }, { on := 9, ground := Ground.phase }], guard := none }) (v := ?_) rfl (by kernel_rfl) (by kernel_rfl) (by kernel_rfl) (fun _ _ _ h => h) (Or.inl ⟨by kernel_rfl, ?_⟩) hHeld ?_
      rotate_left
      · (intro w hSw; (try dsimp only at hSw); go_simp); try with_reducible rfl
      try simp only [Act.put, List.setIfInBounds_toArray, List.set_cons_zero, List.set_cons_succ]
      refine wpAnyH_done (by kernel_rfl) ?_ _
      clear hHeld

      clear q1 q2
      have hbd : IntKind.i64.wrap ((k : Int) + 1) = (k : Int) + 1 := by rw [IntKind.wrap_i64]; have := HKL.out; omega
      go_wp2_with fail
      go_roundw
      case rel => exact ⟨k + 1, n8 + 1, g3, c3', LK ++ [(wd ++ (⟨#[32]⟩ : ByteArray)) ++ tx], HKL.out, by go_num, by have := HNK.out; omega, by rw [HLK.out, HNK.out]; exact HLN.out.symm, rfl, X3.out, WB3.out, by rw [List.map_append]; exact O3.out, B3.out⟩
      case measure => have := HKL.out; simp [intOf]; omega
    · obtain rfl : k = 5 := by omega
      obtain rfl : n8 = 7 := HNK.out
      have hc := HLK.out
      subst hc
      clear hlt
      have HS : (∀ x : Int, x = xs + xi - xv - xr - xo → True) := fun _ _ => trivial
      have HTI := hide (fun W => till_any xc xs xv xr xi xo HOK.out.2.1 HOK.out.2.2.1 HOK.out.2.2.2.1 HOK.out.2.2.2.2.1 HOK.out.2.2.2.2.2 W)
      have HLA := hide (show lastT ⟨xc, xs, xv, xr, xi, xo⟩ = if sumE (xs + xi - xv - xr - xo) = 0 then (⟨#[116, 105, 108, 108, 32]⟩ : ByteArray) ++ sb (cText (sumV (xs + xi - xv - xr - xo))) else (⟨#[116, 105, 108, 108, 32, 111, 118, 101, 114]⟩ : ByteArray) from rfl)
      have HSI := hide (show inR (sumV (xs + xi - xv - xr - xo)) from by unfold sumV; split; assumption; exact ⟨by decide, by decide⟩)
      clear HS
      unfold totA at HTI
      generalize lastT ⟨xc, xs, xv, xr, xi, xo⟩ = la at *
      generalize sumE (xs + xi - xv - xr - xo) = ze at *
      generalize sumV (xs + xi - xv - xr - xo) = zv at *
      go_wp2_with (refine rw_load rfl 34 (.tmp 5) rfl tb rfl 34 (#[.int .i64 xc, .int .i64 xs, .int .i64 xv, .int .i64 xr, .int .i64 xi, .int .i64 xo] : Array Value) (0, 0) _ X9.out Tryd.underlying34 rfl (by kernel_rfl) ?_)
      refine (HTI.out _).mono ?_
      rintro e w7 ⟨rfl, hb⟩
      have T7 := hide (tab_below T9.out hb)
      have O7 := hide (owns_below O9.out hb)
      have B7 := hide (B9.out.trans (hb.mono B9.out.size))
      clear hb T9 O9 B9 X9 WB9 HTI
      go_upto_if 62 with (fail)
      go_cut [12] from 61 to 64 (fun s12 W => ∃ x : ByteArray, s12 = .string x ∧ x.size ≤ 40 ∧ (⟨#[116, 105, 108, 108, 32]⟩ : ByteArray) ++ x = la ∧ W.ownsRow w.heap.size 9 1 (.slice (some ⟨g, 0, none⟩) 7 c8) 7 ((LT.take 7).map Value.string) ∧ Below w.heap.size w W)
      case first =>
        by_cases hz : ze = 0
        · have g1 : (ze == 0) = true := beq_iff_eq.mpr hz
          have HLA2 := hide (HLA.out.trans (if_pos hz))
          have HTX := hide (fun W (hW : Tab W) => HTXF.out zv HSI.out W hW)
          have HTZ := hide (cText_sz zv HSI.out)
          clear hz
          go_wp2_with fail
          refine (HTX.out _ T7.out).mono ?_
          rintro e w8 ⟨rfl, hb⟩
          have O8 := hide (owns_below O7.out hb)
          have B8 := hide (B7.out.trans (hb.mono B7.out.size))
          clear hb
          go_wp2_with fail
          go_meet
          exact ⟨_, rfl, Nat.le_trans HTZ.out (by decide), HLA2.out.symm, O8.out, B8.out⟩
        · have g1 : (ze == 0) = false := beq_eq_false_iff_ne.mpr hz
          have HLA2 := hide (HLA.out.trans (if_neg hz))
          clear hz
          go_wp2_with fail
          go_meet
          exact ⟨_, rfl, by decide, by rw [HLA2.out, sp_t], O7.out, B7.out⟩
      case rest =>
      obtain ⟨x, rfl, hxz, hxl, ho, hb⟩ := hcut
      have HXL := hide hxl
      have O8 := hide ho
      have B8 := hide hb
      have q1 : ¬ 9223372036854775807 < 5 + x.size := by omega
      clear hxl ho hb hxz O7 B7 T7
      have hA := (Below.refl wc.heap.size wc).alloc (Nat.le_refl _) (.cells #[.string ((⟨#[116, 105, 108, 108, 32]⟩ : ByteArray) ++ x)] 9)
      have HNEW := hide (heap_new wc (.cells #[.string ((⟨#[116, 105, 108, 108, 32]⟩ : ByteArray) ++ x)] 9))
      have OA := hide (owns_below O8.out hA)
      have BA := hide (B8.out.trans (hA.mono B8.out.size))
      have HWA := hide (show w.heap.size ≤ (wc.alloc (.cells #[.string ((⟨#[116, 105, 108, 108, 32]⟩ : ByteArray) ++ x)] 9)).heap.size from BA.out.size)
      clear hA
      go_wp2_with (at_builtin; refine wpList_append_own2 _ rfl _ _ 41 rfl w.heap.size 9 i0 (.string ⟨#[]⟩) 1 16 Tryd.underlying41 HI.out HZ0.out HZ1.out HZ2.out rfl (by decide) (.slice (some ⟨g, 0, none⟩) 7 c8) 7 ((LT.take 7).map Value.string) rfl OA.out ⟨wc.heap.size, 0, none⟩ 1 1 (by decide) [.string ((⟨#[116, 105, 108, 108, 32]⟩ : ByteArray) ++ x)] rfl rfl (cells_new HNEW.out) (one_str _) (by unfold maxLen; omega) (by omega) HWA.out ?_; intro g3 c3' w' ho hgr hnil; have HO7 := hide ho; have HGR := hide hgr; clear ho hgr hnil)
      have BF := hide (BA.out.grown HGR.out HWA.out (fun jj hh => (OA.out.lt jj hh).1))
      go_ret
      refine .inr ⟨_, g3, c3', HSO.out, rfl, ?_, BF.out⟩
      have h9 := HO7.out
      rw [HHW.out, HLTQ.out, ← HL8.out, ← HXL.out, List.map_append]
      exact h9
end Go.Proofs.YtnnggchkdffpnaaDoor
