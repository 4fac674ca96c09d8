/-
  Layer 12, the program's calls, fourth part: New; what the laws ask first.
-/
import Derived.Test.YtpgogdnjddeagaaWhere3
--import Derived.Test.Zdbg
namespace Go.Proofs.Ytpgogdnjddeagaa
set_option linter.unusedSimpArgs false
set_option linter.unusedVariables false
open Go.RowKit Go.Maps W

theorem eq_place (a b c d : Int) (w : World) : (Op.equalIn 10000 60 (.agg #[.int .i64 a, .int .i64 b]) (.agg #[.int .i64 c, .int .i64 d])).run Try.prog w = .ok (a == c && (b == d && true)) w := by
  rw [run_equalIn_agg w 9999 60 _ _ (by kernel_rfl) (by kernel_rfl)]
  have hF : fdesc (Try.prog.fieldsOf 60).toList = [("Block", 3, 0), ("Page", 3, 1)] := by kernel_rfl
  exact eqF_cons w _ _ _ hF (by decide) (by kernel_rfl) (by kernel_rfl) (run_equalIn_int w 9998 3 .i64 .i64 _ _ Try.underlying3) fun l h =>
    eqF_cons w _ _ _ h (by decide) (by kernel_rfl) (by kernel_rfl) (run_equalIn_int w 9998 3 .i64 .i64 _ _ Try.underlying3) fun l h => eqF_nil w _ _ _ h
theorem eql_place (a b c d : Int) (w : World) : (binOp .eql 60 (.agg #[.int .i64 a, .int .i64 b]) (.agg #[.int .i64 c, .int .i64 d])).run Try.prog w = .ok (.bool (a == c && b == d)) w := by
  rw [run_eql_struct, eq_place]
  simp
theorem neq_place (a b c d : Int) (w : World) : (binOp .neq 60 (.agg #[.int .i64 a, .int .i64 b]) (.agg #[.int .i64 c, .int .i64 d])).run Try.prog w = .ok (.bool (!(a == c && b == d))) w := by
  rw [run_neq_struct, eq_place]
  simp
theorem guard_place (op : BinOp) (x y : Operand) (a b : Array Value) (w : World) : (eqGuard op 60 x y (.agg a) (.agg b)).run Try.prog w = .ok () w := run_eqGuard_agg w op 60 x y a b (by kernel_rfl)

theorem within_yes (n most : Int) (h : 1 ≤ n) (h2 : n ≤ most) (w : World) : Calls Try.prog 35 #[.int .i64 n, .int .i64 most] w fun e w' => e = .returned (.bool true) ∧ w = w' := by
  go_enter Try.func35, Try.ntmps35
  go_wp2
  go_ret
  exact ⟨rfl, rfl⟩
theorem within_no (n most : Int) (h : n < 1 ∨ most < n) (w : World) : Calls Try.prog 35 #[.int .i64 n, .int .i64 most] w fun e w' => e = .returned (.bool false) ∧ w = w' := by
  rcases h with h | h
  · have h1 : ¬ 1 ≤ n := by omega
    go_enter Try.func35, Try.ntmps35
    go_wp2
    go_ret
    exact ⟨rfl, rfl⟩
  · by_cases h1 : 1 ≤ n
    · have h2 : ¬ n ≤ most := by omega
      go_enter Try.func35, Try.ntmps35
      go_wp2
      go_ret
      exact ⟨rfl, rfl⟩
    · go_enter Try.func35, Try.ntmps35
      go_wp2
      go_ret
      exact ⟨rfl, rfl⟩
theorem newW_no (a b c : Int) (h : a < 1 ∨ 256 < a ∨ b < 1 ∨ 64 < b ∨ c < 1 ∨ 4096 < c) (w : World) :
    Calls Try.prog 19 #[.int .i64 a, .int .i64 b, .int .i64 c] w fun e w' => e = .returned (.tuple #[.pointer none, .int .i64 2]) ∧ w = w' := by
  by_cases ha : a < 1 ∨ 256 < a
  · clear h
    have HA := hide ha
    clear ha
    go_enter Try.func19, Try.ntmps19
    go_wp2_with fail
    refine (within_no a 256 HA.out _).mono ?_
    rintro e w1 ⟨rfl, rfl⟩
    go_wp2
    go_ret2
    exact ⟨rfl, rfl⟩
  · have HA := hide (show 1 ≤ a ∧ a ≤ 256 by omega)
    by_cases hb : b < 1 ∨ 64 < b
    · have HB := hide hb
      clear h ha hb
      go_enter Try.func19, Try.ntmps19
      go_wp2_with fail
      refine (within_yes a 256 HA.out.1 HA.out.2 _).mono ?_
      rintro e w1 ⟨rfl, rfl⟩
      go_wp2_with fail
      refine (within_no b 64 HB.out _).mono ?_
      rintro e w1 ⟨rfl, rfl⟩
      go_wp2
      go_ret2
      exact ⟨rfl, rfl⟩
    · have HB := hide (show 1 ≤ b ∧ b ≤ 64 by omega)
      have HC := hide (show c < 1 ∨ 4096 < c by omega)
      clear h ha hb
      go_enter Try.func19, Try.ntmps19
      go_wp2_with fail
      refine (within_yes a 256 HA.out.1 HA.out.2 _).mono ?_
      rintro e w1 ⟨rfl, rfl⟩
      go_wp2_with fail
      refine (within_yes b 64 HB.out.1 HB.out.2 _).mono ?_
      rintro e w1 ⟨rfl, rfl⟩
      go_wp2_with fail
      refine (within_no c 4096 HC.out _).mono ?_
      rintro e w1 ⟨rfl, rfl⟩
      go_wp2
      go_ret2
      exact ⟨rfl, rfl⟩
/-- New made a map -/
def NewW (nb pg lg : Nat) (w : World) (e : Ending) (w' : World) : Prop := ∃ p q o l : Nat, e = .returned (.tuple #[.pointer (some ⟨p, 0, none⟩), .int .i64 0]) ∧ WhereAt w' p q o l pg nb (List.replicate lg none) ∧ Below w.heap.size w w' ∧ w.heap.size ≤ p ∧ w.heap.size ≤ q ∧ w.heap.size ≤ o ∧ w.heap.size ≤ l
theorem make_spots (n : Nat) (h : n ≤ 4096) (W : World) : (Instr.makeSlice 71 (.int .i64 (n : Int)) (.int .i64 (n : Int))).run Try.prog W = .ok (.slice (some ⟨W.heap.size, 0, none⟩) n n) (W.alloc (.cells ((List.replicate n (none : Option (Int × Int))).flatMap spotC).toArray 81)) := by
  have := run_make_rows (P := Try.prog) (k := 3) (B := 24) 71 81 (z := .agg #[.int .i64 0, .int .i64 0, .bool false]) (spotC none) Try.underlying71 (by kernel_rfl) rfl rfl (by omega) n (by omega) (by omega) W
  rw [this]
  congr 4
  simp [List.flatMap_replicate]
theorem make_live (n : Nat) (h : n ≤ 256) (W : World) : (Instr.makeSlice 23 (.int .i64 (n : Int)) (.int .i64 (n : Int))).run Try.prog W = .ok (.slice (some ⟨W.heap.size, 0, none⟩) n n) (W.alloc (.cells (List.replicate n (Value.int .i64 0)).toArray 3)) :=
  run_make_nums 23 3 (B := 8) Try.underlying23 (by kernel_rfl) n n rfl (by omega) (by omega) W
theorem MapIs.of_empty {w : World} {P : Program} {k : TypeId} {b : Nat} (h : w.heap[b]? = some (.map #[] 0)) : MapIs w P k b 0 0 (fun _ => none) := by
  obtain ⟨D, ⟨es, clock, h1, h2⟩, h3⟩ := MapIs.made w P k
  rw [heap_new] at h1
  simp only [Option.some.injEq, Obj.map.injEq] at h1
  obtain ⟨rfl, rfl⟩ := h1
  exact ⟨D, ⟨#[], 0, h, h2⟩, h3⟩
theorem heap4 (w : World) (A B C D : Obj) : ((((w.alloc A).alloc B).alloc C).alloc D).drew.heap[w.heap.size]? = some A ∧ ((((w.alloc A).alloc B).alloc C).alloc D).drew.heap[w.heap.size + 1]? = some B ∧ ((((w.alloc A).alloc B).alloc C).alloc D).drew.heap[w.heap.size + 1 + 1]? = some C ∧ ((((w.alloc A).alloc B).alloc C).alloc D).drew.heap[w.heap.size + 1 + 1 + 1]? = some D := by
  have s1 : (w.alloc A).heap.size = w.heap.size + 1 := by simp
  have s2 : ((w.alloc A).alloc B).heap.size = w.heap.size + 1 + 1 := by simp
  have s3 : (((w.alloc A).alloc B).alloc C).heap.size = w.heap.size + 1 + 1 + 1 := by simp
  refine ⟨?_, ?_, ?_, ?_⟩
  · show ((((w.alloc A).alloc B).alloc C).alloc D).heap[w.heap.size]? = some A
    rw [heap_old _ _ _ (by omega), heap_old _ _ _ (by omega), heap_old _ _ _ (by omega), heap_new]
  · show ((((w.alloc A).alloc B).alloc C).alloc D).heap[w.heap.size + 1]? = some B
    rw [heap_old _ _ _ (by omega), heap_old _ _ _ (by omega), ← s1, heap_new]
  · show ((((w.alloc A).alloc B).alloc C).alloc D).heap[w.heap.size + 1 + 1]? = some C
    rw [heap_old _ _ _ (by omega), ← s2, heap_new]
  · show ((((w.alloc A).alloc B).alloc C).alloc D).heap[w.heap.size + 1 + 1 + 1]? = some D
    rw [← s3, heap_new]
theorem owner_new (lg : Nat) (x : Int × Int) : owner (List.replicate lg none) x = none := owner_isnt (fun i h => by
  rw [List.getElem?_replicate] at h
  split at h <;> simp at h)
theorem live_new (lg : Nat) (b : Int) : liveN (List.replicate lg none) b = 0 := by simp [liveN, List.countP_replicate]
theorem total_new (lg : Nat) : total (List.replicate lg none) = 0 := by simp [total, List.countP_replicate]
theorem newW_mk {w W : World} {p q o l nb pg lg : Nat} (hp : W.heap[p]? = some (.cells #[.int .i64 (pg : Int), .slice (some ⟨q, 0, none⟩) lg lg, .map (some o), .slice (some ⟨l, 0, none⟩) nb nb] 74))
    (hq : W.heap[q]? = some (.cells ((List.replicate lg (none : Option (Int × Int))).flatMap spotC).toArray 81)) (ho : W.heap[o]? = some (.map #[] 0)) (hl : W.heap[l]? = some (.cells (Array.replicate nb (Value.int .i64 0)) 3))
    (hn : [p, q, o, l].Nodup) (hb : Below w.heap.size w W) (h2 : nb ≤ 256 ∧ pg ≤ 64 ∧ lg ≤ 4096) (h3 : w.heap.size ≤ p ∧ w.heap.size ≤ q ∧ w.heap.size ≤ o ∧ w.heap.size ≤ l) : NewW nb pg lg w (.returned (.tuple #[.pointer (some ⟨p, 0, none⟩), .int .i64 0])) W := by
  refine ⟨p, q, o, l, rfl, ⟨by rw [List.length_replicate]; exact hp, hq, ?_, ⟨fun _ => none, by rw [total_new]; exact MapIs.of_empty ho, fun b p _ _ => by rw [owner_new]; rfl⟩, ?_, ?_, by rw [List.length_replicate]; omega, hn⟩, hb, h3⟩
  · rw [hl]
    congr 2
    apply Array.toList_inj.1
    apply List.ext_getElem (by simp [liveL])
    intro i h1 h2
    simp [liveL, live_new]
  · intro i j x h
    rw [List.getElem?_replicate] at h
    split at h <;> simp at h
  · intro i b p h
    rw [List.getElem?_replicate] at h
    split at h <;> simp at h
set_option maxHeartbeats 1000000 in
theorem newW_yes (nb pg lg : Nat) (h1 : 1 ≤ nb) (h2 : nb ≤ 256) (h3 : 1 ≤ pg) (h4 : pg ≤ 64) (h5 : 1 ≤ lg) (h6 : lg ≤ 4096) (w : World) :
    Calls Try.prog 19 #[.int .i64 (nb : Int), .int .i64 (pg : Int), .int .i64 (lg : Int)] w (NewW nb pg lg w) := by
  have hmm := @run_makeMap Try.prog
  have hms := make_spots lg h6
  have hml := make_live nb h2
  go_enter Try.func19, Try.ntmps19
  go_wp2_with fail
  refine (within_yes nb 256 (by omega) (by omega) _).mono ?_
  rintro e w1 ⟨rfl, rfl⟩
  go_wp2_with fail
  refine (within_yes pg 64 (by omega) (by omega) _).mono ?_
  rintro e w1 ⟨rfl, rfl⟩
  go_wp2_with fail
  refine (within_yes lg 4096 (by omega) (by omega) _).mono ?_
  rintro e w1 ⟨rfl, rfl⟩
  go_wp2
  go_region
  all_goals
    go_wp2
    go_ret2
    first | exact newW_mk (heap4 _ _ _ _ _).2.2.2 (heap4 _ _ _ _ _).1 (heap4 _ _ _ _ _).2.1 (heap4 _ _ _ _ _).2.2.1 (by simp <;> omega) (((((Below.refl w.heap.size w).alloc (Nat.le_refl _) _).alloc (by simp) _).alloc (by simp; omega) _).alloc (by simp; omega) _).drew ⟨h2, h4, h6⟩ ⟨by omega, by omega, by omega, by omega⟩ | exact newW_mk (heap4 _ _ _ _ _).2.2.2 (heap4 _ _ _ _ _).1 (heap4 _ _ _ _ _).2.2.1 (heap4 _ _ _ _ _).2.1 (by simp <;> omega) (((((Below.refl w.heap.size w).alloc (Nat.le_refl _) _).alloc (by simp) _).alloc (by simp; omega) _).alloc (by simp; omega) _).drew ⟨h2, h4, h6⟩ ⟨by omega, by omega, by omega, by omega⟩ | exact newW_mk (heap4 _ _ _ _ _).2.2.2 (heap4 _ _ _ _ _).2.1 (heap4 _ _ _ _ _).1 (heap4 _ _ _ _ _).2.2.1 (by simp <;> omega) (((((Below.refl w.heap.size w).alloc (Nat.le_refl _) _).alloc (by simp) _).alloc (by simp; omega) _).alloc (by simp; omega) _).drew ⟨h2, h4, h6⟩ ⟨by omega, by omega, by omega, by omega⟩ | exact newW_mk (heap4 _ _ _ _ _).2.2.2 (heap4 _ _ _ _ _).2.1 (heap4 _ _ _ _ _).2.2.1 (heap4 _ _ _ _ _).1 (by simp <;> omega) (((((Below.refl w.heap.size w).alloc (Nat.le_refl _) _).alloc (by simp) _).alloc (by simp; omega) _).alloc (by simp; omega) _).drew ⟨h2, h4, h6⟩ ⟨by omega, by omega, by omega, by omega⟩ | exact newW_mk (heap4 _ _ _ _ _).2.2.2 (heap4 _ _ _ _ _).2.2.1 (heap4 _ _ _ _ _).1 (heap4 _ _ _ _ _).2.1 (by simp <;> omega) (((((Below.refl w.heap.size w).alloc (Nat.le_refl _) _).alloc (by simp) _).alloc (by simp; omega) _).alloc (by simp; omega) _).drew ⟨h2, h4, h6⟩ ⟨by omega, by omega, by omega, by omega⟩ | exact newW_mk (heap4 _ _ _ _ _).2.2.2 (heap4 _ _ _ _ _).2.2.1 (heap4 _ _ _ _ _).2.1 (heap4 _ _ _ _ _).1 (by simp <;> omega) (((((Below.refl w.heap.size w).alloc (Nat.le_refl _) _).alloc (by simp) _).alloc (by simp; omega) _).alloc (by simp; omega) _).drew ⟨h2, h4, h6⟩ ⟨by omega, by omega, by omega, by omega⟩
end Go.Proofs.Ytpgogdnjddeagaa
