/-
  Layer 26: the document's shifts: Start, Add by contract.
-/
import Derived.Test.YtfdgfeohmkdnoaaRSh
import Derived.Test.YtfdgfeohmkdnoaaRCents4
--import Derived.Test.Zdbg
namespace Go.Proofs.Ytfdgfeohmkdnoaa
set_option linter.unusedSimpArgs false
set_option linter.unusedVariables false
open Go.RowKit Go.WideShapes Go.ChangeShapes Go.ChangeAt Go.Deep

theorem res_ctt {P : Program} {fn : Func} {p u t : Tmp} {ty : TypeId} (h : fn.results = #[.cell p ty, .tmp u, .tmp t]) (tmps : Array Value) (w : World) (g : Nat) (ty2 : TypeId) (cs : Array Value) (fr : Nat × Nat) (d : TypeDesc)
    (hp : tmps.getD p undef = .pointer (some ⟨g, 0, none⟩)) (hg : w.heap[g]? = some (.cells cs ty2 fr)) (hu : P.underlying ty = some d) (hd : (match d with | .struct _ | .array _ _ => true | _ => false) = true) (hi : (P.info? ty).map (·.size) = some cs.size) :
    (results fn tmps).run P w = .ok (.tuple #[.agg cs, tmps.getD u undef, tmps.getD t undef]) w := by
  have hp' : tmps[p]?.getD undef = .pointer (some ⟨g, 0, none⟩) := by simpa using hp
  simp [results, h, hp', asAddr, run_loadVar_row w g ty2 ty cs fr d hg hu hd hi]
def RStartIs (M : ShM) (nw : TotM) (a : Option Addr) (cp : Nat) (w : World) (e : Ending) (w' : World) : Prop := ∃ nw', e = .returned (.tuple #[rsV (shStartM M) nw' a cp, .int .i64 (shStartN M), .int .i64 (shStartE M)]) ∧ RsIs w' (shStartM M) nw' a cp ∧ Below w.heap.size w w'
theorem rsstart_no {M : ShM} {nw : TotM} {a : Option Addr} {cp : Nat} {w w' : World} {er : Int} (h : RsIs w' M nw a cp) (hE : shStartE M = er) (h0 : er ≠ 0) (hb : Below w.heap.size w w') : RStartIs M nw a cp w (.returned (.tuple #[rsV M nw a cp, .int .i64 0, .int .i64 er])) w' := by
  have hm : shStartM M = M := by unfold shStartM; rw [hE, if_neg h0]
  refine ⟨nw, ?_, hm.symm ▸ h, hb⟩
  rw [hm]
  unfold shStartN
  rw [hE, if_neg h0]
set_option maxRecDepth 100000 in
set_option maxHeartbeats 2000000 in
theorem rsstart_any (M : ShM) (nw : TotM) (a : Option Addr) (cp : Nat) (w : World) (hok : ShOk M) (hin : RsIs w M nw a cp) : Calls Try.prog 11 #[rsV M nw a cp] w (RStartIs M nw a cp w) := by
  obtain ⟨keep, next, op, ⟨zc, zs, zv, zr, zi, zo⟩, L⟩ := M
  obtain ⟨xc, xs, xv, xr, xi, xo⟩ := nw
  have hnx : 1 ≤ next ∧ next ≤ 4294967296 := hok.nx
  have HIN := hide hin
  have hB := fun (A B : Obj) => ((Below.refl w.heap.size w).alloc (Nat.le_refl _) A).alloc (show w.heap.size ≤ (w.alloc A).heap.size by simp) B
  clear hin hok
  unfold rsV
  cases op with
  | true =>
    have HB := hide (hB (.cells #[.int .i64 keep, .int .i64 next, .bool true, .int .i64 xc, .int .i64 xs, .int .i64 xv, .int .i64 xr, .int .i64 xi, .int .i64 xo, .slice a L.length cp] 32) (.cells #[.int .i64 keep, .int .i64 next, .bool true, .int .i64 xc, .int .i64 xs, .int .i64 xv, .int .i64 xr, .int .i64 xi, .int .i64 xo, .slice a L.length cp] 32))
    clear hB
    go_enter Try.func11, Try.ntmps11
    go_wp2_with fail
    (try simp only [Exit.inBlock, Exit.then])
    refine bodyPost_ret (res_ctt (P := Try.prog) rfl _ _ (w.heap.size + 1) 32 #[.int .i64 keep, .int .i64 next, .bool true, .int .i64 xc, .int .i64 xs, .int .i64 xv, .int .i64 xr, .int .i64 xi, .int .i64 xo, .slice a L.length cp] (0, 0) _ rfl (by exact heap_alloc2_new w _ _) Try.underlying32 rfl (by kernel_rfl)) rfl ?_
    exact rsstart_no (HIN.out.below HB.out) rfl (by decide) HB.out
  | false =>
    by_cases hn : 4294967295 < next
    · have HE := hide (show shStartE ⟨keep, next, false, ⟨zc, zs, zv, zr, zi, zo⟩, L⟩ = 7 from by unfold shStartE; dsimp only; rw [if_neg (by decide), if_pos hn])
      have HB := hide (hB (.cells #[.int .i64 keep, .int .i64 next, .bool false, .int .i64 xc, .int .i64 xs, .int .i64 xv, .int .i64 xr, .int .i64 xi, .int .i64 xo, .slice a L.length cp] 32) (.cells #[.int .i64 keep, .int .i64 next, .bool false, .int .i64 xc, .int .i64 xs, .int .i64 xv, .int .i64 xr, .int .i64 xi, .int .i64 xo, .slice a L.length cp] 32))
      clear hB
      go_enter Try.func11, Try.ntmps11
      go_wp2_with fail
      (try simp only [Exit.inBlock, Exit.then])
      refine bodyPost_ret (res_ctt (P := Try.prog) rfl _ _ (w.heap.size + 1) 32 #[.int .i64 keep, .int .i64 next, .bool false, .int .i64 xc, .int .i64 xs, .int .i64 xv, .int .i64 xr, .int .i64 xi, .int .i64 xo, .slice a L.length cp] (0, 0) _ rfl (by exact heap_alloc2_new w _ _) Try.underlying32 rfl (by kernel_rfl)) rfl ?_
      exact rsstart_no (HIN.out.below HB.out) HE.out (by decide) HB.out
    · have HE := hide (show shStartE ⟨keep, next, false, ⟨zc, zs, zv, zr, zi, zo⟩, L⟩ = 0 from by unfold shStartE; dsimp only; rw [if_neg (by decide), if_neg hn])
      have hw : IntKind.i64.wrap (next + 1) = next + 1 := by rw [IntKind.wrap_i64]; omega
      have HM := hide (show shStartM ⟨keep, next, false, ⟨zc, zs, zv, zr, zi, zo⟩, L⟩ = ⟨keep, next + 1, true, tot0, L⟩ from by unfold shStartM; rw [HE.out, if_pos rfl])
      have HB := hide (hB (.cells #[.int .i64 keep, .int .i64 (next + 1), .bool true, .int .i64 0, .int .i64 0, .int .i64 0, .int .i64 0, .int .i64 0, .int .i64 0, .slice a L.length cp] 32) (.cells #[.int .i64 keep, .int .i64 (next + 1), .bool true, .int .i64 0, .int .i64 0, .int .i64 0, .int .i64 0, .int .i64 0, .int .i64 0, .slice a L.length cp] 32))
      clear hB
      go_enter Try.func11, Try.ntmps11
      go_wp2_with fail
      (try simp only [Exit.inBlock, Exit.then])
      refine bodyPost_ret (res_ctt (P := Try.prog) rfl _ _ (w.heap.size + 1) 32 #[.int .i64 keep, .int .i64 (next + 1), .bool true, .int .i64 0, .int .i64 0, .int .i64 0, .int .i64 0, .int .i64 0, .int .i64 0, .slice a L.length cp] (0, 0) _ rfl (by exact heap_alloc2_new w _ _) Try.underlying32 rfl (by kernel_rfl)) rfl ?_
      refine ⟨tot0, ?_, ?_, HB.out⟩
      · rw [HM.out]
        unfold shStartN
        rw [HE.out, if_pos rfl]
        rfl
      · rw [HM.out]
        exact ⟨(HIN.out.below HB.out).row, fun _ => rfl⟩
end Go.Proofs.Ytfdgfeohmkdnoaa
