/-
  Layer 26: slices.Delete of totals by contract, where the first ones go or none.
-/
import Derived.Test.YtnnggchkdffpnaaDoorMSh
import Derived.Test.YtnnggchkdffpnaaDoorKitO
import Derived.StillTailTactics
--import Derived.Test.Zdbg
namespace Go.Proofs.YtnnggchkdffpnaaDoor
set_option linter.unusedSimpArgs false
set_option linter.unusedVariables false
open Go.RowKit Go.WideShapes Go.ChangeShapes Go.ChangeAt

/-- 'append' at the operation, by its run -/
theorem wpList_append_run {P : Program} (w : World) {ops : Array Oper} {rest : List Oper} {o : Oper} {a : Act} {Q : Exit → Act → World → Prop}
    (hg : o.guard = none) (s x : Operand) (t : TypeId) (hop : o.op = Op.call { callee := Callee.builtin Builtin.append, args := #[s, x], argTypes := #[t, t] })
    (vs vx v : Value) (w' : World) (hs : a.eval s = vs) (hx : a.eval x = vx) (hrun : (Builtin.append_ #[t, t] o.type #[vs, vx]).run P w = .ok v w')
    (hK : wpList P ops Q rest (a.put o.dst v) w') :
    wpList P ops Q (o :: rest) a w := by
  refine wpList_plain hg fun K' hK' => ?_
  unfold Oper.wp
  simp [execOp, hop, resolve, invoke, builtin, hs, hx, hrun, Result.andThen]
  exact hK' _ _ hK
/-- 'clear' at the operation, by its run -/
theorem wpList_clear_run {P : Program} (w : World) {ops : Array Oper} {rest : List Oper} {o : Oper} {a : Act} {Q : Exit → Act → World → Prop}
    (hg : o.guard = none) (s : Operand) (t : TypeId) (hop : o.op = Op.call { callee := Callee.builtin Builtin.clear, args := #[s], argTypes := #[t] })
    (vs v : Value) (w' : World) (hs : a.eval s = vs) (hrun : (Builtin.clear_ #[t] o.type #[vs]).run P w = .ok v w')
    (hK : wpList P ops Q rest (a.put o.dst v) w') :
    wpList P ops Q (o :: rest) a w := by
  refine wpList_plain hg fun K' hK' => ?_
  unfold Oper.wp
  simp [execOp, hop, resolve, invoke, builtin, hs, hrun, Result.andThen]
  exact hK' _ _ hK
/-- 'clear' of one row of a slice of rows, in a block that is known whole -/
theorem run_clear_row {P : Program} (w : World) (t e ty : TypeId) (z : Value) (zl : List Value) (ht : P.underlying t = some (.slice e)) (hv : ∀ w, (zeroValue e).run P w = .ok z w) (hz : z.cells = zl.toArray) (h1 : ∀ u ∈ zl, u.oneCell' = true)
    (g o c : Nat) (cur : Array Value) (hg : w.heap[g]? = some (.cells cur e (0, 0))) (hfit : o + zl.length ≤ cur.size) :
    (Builtin.clear_ #[t] ty #[.slice (some ⟨g, o, none⟩) 1 c]).run P w = .ok (.tuple #[]) (w.setRow g (cur.toList.take o ++ zl ++ cur.toList.drop (o + zl.length)).toArray) := by
  have hzc : (Builtin.zeroCells z.cells 1).toList = zl := by
    rw [hz]
    simp only [Builtin.zeroCells, Nat.one_mul]
    apply List.ext_getElem
    · simp
    · intro i h1 h2
      simp [Nat.mod_eq_of_lt h2, List.getD, h2]
  have hst := run_storeCells_at P g o e zl 0 cur w hg (by simpa using hfit) h1
  simp only [Nat.add_zero] at hst
  simp [Builtin.clear_, run_underlying ht, hv, hzc, hst]
theorem setRow_only (w : World) (g : Nat) (cs : Array Value) : Only g w (w.setRow g cs) := ⟨rfl, rfl, rfl, by simp, fun k _ hk => setRow_other w g k cs hk⟩

theorem row_shift (l news z : List Value) (k : Nat) (hk : news.length = k) (hz : z.length = 6) (hl : k + 6 ≤ l.length) :
    (((news ++ l.drop k).take k ++ z ++ (news ++ l.drop k).drop (k + 6)).take k = news) ∧ ((news ++ l.drop k).take k ++ z ++ (news ++ l.drop k).drop (k + 6)).length = l.length := by
  have h1 : (news ++ l.drop k).take k = news := by rw [List.take_append_of_le_length (by omega), List.take_of_length_le (by omega)]
  rw [h1]
  constructor
  · rw [List.append_assoc, List.take_append_of_le_length (by omega), List.take_of_length_le (by omega)]
  · simp; omega
def zeroE : List Value := [.int .i64 0, .int .i64 0, .int .i64 0, .int .i64 0, .int .i64 0, .int .i64 0]
theorem delete_none (g n c : Nat) (hn : n ≤ c) (hc : c ≤ 9223372036854775807) (w : World) :
    Calls Tryd.prog 16 #[.slice (some ⟨g, 0, none⟩) n c, .int .i64 0, .int .i64 0] w fun e w' => e = .returned (.slice (some ⟨g, 0, none⟩) n c) ∧ w = w' := by
  have h1 : (n : Int) ≤ (c : Int) := by omega
  go_enter Tryd.func16, Tryd.ntmps16
  go_wp2_with fail
  go_ret
  exact ⟨rfl, rfl⟩
set_option maxRecDepth 100000 in
set_option maxHeartbeats 400000 in
theorem delete_first (x : TotM) (L : List TotM) (g c : Nat) (cur : Array Value) (hL : L.length ≤ 1000) (hL1 : 0 < L.length) (hn : L.length + 1 ≤ c) (hc : c ≤ 9223372036854775807) (hsz : cur.size = c * 6) (hcur : cur.toList.take ((L.length + 1) * 6) = totC x ++ L.flatMap totC) (w : World) (hg : w.heap[g]? = some (.cells cur 34 (0, 0))) :
    Calls Tryd.prog 16 #[.slice (some ⟨g, 0, none⟩) (L.length + 1) c, .int .i64 0, .int .i64 1] w fun e w' => ∃ cur' : Array Value, e = .returned (.slice (some ⟨g, 0, none⟩) L.length c) ∧ w'.heap[g]? = some (.cells cur' 34 (0, 0)) ∧ cur'.size = c * 6 ∧ cur'.toList.take (L.length * 6) = L.flatMap totC ∧ Only g w w' := by
  obtain ⟨i0, hi, hz0, hz1, hz2⟩ := info_parts (show (Tryd.prog.info? 34).map (fun i => (i.zero, i.size, i.bytes)) = some (some (.agg #[.int .i64 0, .int .i64 0, .int .i64 0, .int .i64 0, .int .i64 0, .int .i64 0]), 6, 48) by kernel_rfl)
  have hnl := totsC_length L
  have hg0 : w.drew.heap[g]? = some (.cells cur 34 (0, 0)) := hg
  have hcell : ∀ j u, (L.flatMap totC)[j]? = some u → w.drew.cell? ((⟨g, 6, none⟩ : Addr).add j) = some u := by
    intro j u hu
    have hj : j < L.length * 6 := by rw [← hnl]; exact (List.getElem?_eq_some_iff.1 hu).1
    rw [Go.WideShapes.add_plain, cell_of_block hg0]
    have e := congrArg (fun l : List Value => l[6 + j]?) hcur
    rw [List.getElem?_take_of_lt (by omega), List.getElem?_append_right (by rw [totC_length]; omega), totC_length, show 6 + j - 6 = j by omega, hu] at e
    rw [← Array.getElem?_toList]
    exact e
  obtain ⟨l1, hl1⟩ : ∃ l1, L.flatMap totC ++ cur.toList.drop (L.length * 6) = l1 := ⟨_, rfl⟩
  obtain ⟨l2, hl2⟩ : ∃ l2, l1.take (L.length * 6) ++ zeroE ++ l1.drop (L.length * 6 + 6) = l2 := ⟨_, rfl⟩
  have hle : L.length * 6 + 6 ≤ cur.size := by omega
  have hcl : cur.toList.length = cur.size := Array.length_toList
  have hl1n : l1.length = cur.size := by rw [← hl1, List.length_append, List.length_drop, hnl, hcl]; omega
  obtain ⟨r1, r2⟩ := row_shift cur.toList (L.flatMap totC) zeroE (L.length * 6) hnl rfl (by rw [hcl]; exact hle)
  rw [hl1, hl2] at r1 r2
  have ha := fun ty => run_append_room (P := Tryd.prog) w.drew 54 ty 34 i0 Tryd.underlying54 hi g 0 c cur hg0 ⟨g, 6, none⟩ L.length (c - 1) (L.flatMap totC) (by rw [hz1]; exact hnl) hcell (totsC_one L) (by omega) (by rw [hz1, hnl]; omega)
  simp only [hz1, Nat.zero_mul, List.take_zero, List.nil_append, Nat.zero_add, hnl, hl1] at ha
  have hg1 := setRow_heap w.drew g cur l1.toArray 34 (0, 0) hg0
  have hc2 := fun ty => run_clear_row (P := Tryd.prog) (w.drew.setRow g l1.toArray) 54 34 ty (.agg #[.int .i64 0, .int .i64 0, .int .i64 0, .int .i64 0, .int .i64 0, .int .i64 0]) zeroE Tryd.underlying54 (fun _ => by kernel_rfl) rfl (by decide) g (L.length * 6) (c - L.length) _ hg1 (by show L.length * 6 + 6 ≤ l1.toArray.size; rw [List.size_toArray, hl1n]; exact hle)
  rw [show zeroE.length = 6 from rfl] at hc2
  simp only [hl2] at hc2
  have hg2 := setRow_heap (w.drew.setRow g l1.toArray) g _ l2.toArray 34 (0, 0) hg1
  have HA := hide ha
  have HC := hide hc2
  have HG2 := hide hg2
  have HR1 := hide r1
  have HR2 := hide (show l2.toArray.size = c * 6 by rw [List.size_toArray]; exact (r2.trans hcl).trans hsz)
  have HO := hide (((Only.refl g w).drew.trans (setRow_only w.drew g l1.toArray)).trans (setRow_only (w.drew.setRow g l1.toArray) g l2.toArray))
  have h1 : ((L.length : Nat) : Int) + 1 ≤ (c : Int) := by omega
  have h2 : (1 : Int) ≤ (L.length : Int) + 1 := by omega
  have hc1 : ¬ c = 1 := by omega
  clear hcl hg2 hg1 hg0 hg hsz hcur hcell hnl hl1n r1 r2 hi hz0 hz1 hz2 ha hc2 hl1 hl2 hle
  generalize L.flatMap totC = F at *
  go_enter Tryd.func16, Tryd.ntmps16
  go_wp2_with fail
  go_still_tail 6, (by kernel_rfl)
  change wpList _ _ _ _ _ w.drew
  refine wpList_append_run w.drew rfl _ _ 54 rfl _ _ _ _ rfl rfl (HA.out _) ?_
  generalize w.drew.setRow g l1.toArray = w1 at *
  have hclr := HC.out 0
  go_wp2_with fail
  go_ret
  exact ⟨_, rfl, HG2.out, HR2.out, HR1.out, HO.out⟩
/-- none or the first one goes -/
theorem delete_any (L : List TotM) (hL : L.length ≤ 1000) (d : Nat) (hd : d = 0 ∨ d = 1 ∧ 2 ≤ L.length) (g c B : Nat) (w : World) (h : w.ownsRow B 34 6 (.slice (some ⟨g, 0, none⟩) L.length c) L.length (L.flatMap totC)) :
    Calls Tryd.prog 16 #[.slice (some ⟨g, 0, none⟩) L.length c, .int .i64 0, .int .i64 (d : Int)] w fun e w' => e = .returned (.slice (some ⟨g, 0, none⟩) (L.drop d).length c) ∧ w'.ownsRow B 34 6 (.slice (some ⟨g, 0, none⟩) (L.drop d).length c) (L.drop d).length ((L.drop d).flatMap totC) ∧ Only g w w' := by
  have h0 := h
  rcases h.2 with ⟨h1, _⟩ | ⟨g', cap, cur, hv, hB, hg, hnc, hcm, hsz, ht⟩
  · cases h1
  · simp only [Value.slice.injEq, Option.some.injEq, Addr.mk.injEq, and_true, true_and] at hv
    obtain ⟨rfl, rfl⟩ := hv
    rcases hd with rfl | ⟨rfl, h2⟩
    · refine (delete_none g L.length c hnc (by unfold maxLen at hcm; omega) w).mono ?_
      rintro e w' ⟨rfl, rfl⟩
      exact ⟨rfl, h0, Only.refl _ _⟩
    · match L, hL, hnc, ht, h2 with
      | x :: L, hL, hnc, ht, h2 =>
        simp only [List.length_cons] at hL hnc h2
        refine (delete_first x L g c cur (by omega) (by omega) (by omega) (by unfold maxLen at hcm; omega) hsz (by simpa using ht) w hg).mono ?_
        rintro e w' ⟨cur', rfl, r1, r2, r3, r4⟩
        exact ⟨rfl, ⟨totsC_length L, .inr ⟨g, c, cur', rfl, hB, r1, by show L.length ≤ c; omega, hcm, r2, r3⟩⟩, r4⟩
end Go.Proofs.YtnnggchkdffpnaaDoor
