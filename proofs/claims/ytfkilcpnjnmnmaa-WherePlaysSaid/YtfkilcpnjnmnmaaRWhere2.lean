/-
  Layer 12, the document's answer, second part: Of, New; the program's Put and Drop at whatever numbers.
-/
import Derived.Test.YtfkilcpnjnmnmaaRWhere
--import Derived.Test.Zdbg
namespace Go.Proofs.Ytfkilcpnjnmnmaa
set_option linter.unusedSimpArgs false
set_option linter.unusedVariables false
open Go.RowKit Go.Maps W

section
variable {w : World} {r g cap : Nat} {nb : Int} {pgs : Nat} {S : Spots}
set_option maxHeartbeats 400000 in
theorem rof_any (h : RefW w r g cap nb (pgs : Int) S) (ok : ∀ (i : Nat) b n, S[i]? = some (some (b, n)) → 0 ≤ b) (hm : S.length ≤ 4096) (hpg : pgs ≤ 64) (b : Int) :
    Calls Try.prog 17 #[.pointer (some ⟨r, 0, none⟩), .int .i64 b] w (OfIs (ofL S b pgs) w) := by
  obtain ⟨i0, hi, hz0, hz1, hz2⟩ := info_parts (show (Try.prog.info? 3).map (fun i => (i.zero, i.size, i.bytes)) = some (some (.int .i64 0), 1, 8) by kernel_rfl)
  have HI := hide hi
  have HZ0 := hide hz0
  have HZ1 := hide hz1
  have HZ2 := hide hz2
  have HR := hide h
  have HOK := hide ok
  clear h hi hz0 hz1 hz2 ok
  go_enter Try.func17, Try.ntmps17
  go_wp2_with fail
  go_loopw [5, 6] (fun s i W => ∃ (k : Nat) (a : Option Addr) (cap : Nat), k ≤ pgs ∧ i = .int .i64 k ∧ s = .slice a (ofL S b k).length cap ∧ W.ownsRow w.heap.size 3 1 (.slice a (ofL S b k).length cap) (ofL S b k).length ((ofL S b k).map (Value.int .i64)) ∧ Below w.heap.size w W) (fun s i _ => pgs - (intOf i).toNat)
  case atStart => exact ⟨0, none, 0, by omega, rfl, rfl, World.ownsRow_nil _ _ _ _, Below.refl _ _⟩
  case round =>
    obtain ⟨k, a, cap2, hk, rfl, rfl, hown, hB⟩ := hrel
    have HB := hide hB
    have HOWN := hide hown
    have HXW := hide (HR.out.below hB)
    obtain ⟨-, c1, -⟩ := HXW.out.cells
    clear hown hB
    by_cases hlt : k < pgs
    · have HNX := hide (ofL_next S b k)
      have HLE := hide (ofL_len S b k)
      have HOZ := hide (show ownZ S b (k : Int) = match owner S (b, (k : Int)) with | some i => (i : Int) | none => -1 from rfl)
      have HOC := hide (rowner_any HXW.out HOK.out hm b (k : Int))
      generalize ofL S b k = L at *
      cases ho : owner S (b, (k : Int)) with
      | none =>
        have HN2 := hide (show ofL S b (k + 1) = L by have := HNX.out; rw [ho] at this; simpa using this)
        rw [ho] at HOZ
        simp only at HOZ
        rw [HOZ.out] at HOC
        clear ho HNX HOZ
        go_wp2_with fail
        refine HOC.out.mono ?_
        rintro e w5 ⟨rfl, rfl⟩
        go_wp2_with fail
        go_roundw
        case rel => exact ⟨k + 1, a, cap2, by omega, by go_num, by rw [HN2.out], by rw [HN2.out]; exact HOWN.out, HB.out⟩
        case measure => simp [intOf]; omega
      | some j =>
        have HN2 := hide (show ofL S b (k + 1) = L ++ [(k : Int)] by have := HNX.out; rw [ho] at this; simpa using this)
        rw [ho] at HOZ
        simp only at HOZ
        rw [HOZ.out] at HOC
        have hj : 0 ≤ (j : Int) := by omega
        have hll : L.length ≤ 64 := by have := HLE.out; omega
        clear ho HNX HOZ
        have HA := hide (HOWN.out.alloc (.cells #[.int .i64 (k : Int)] 3))
        have HBA := hide (HB.out.alloc HB.out.size (.cells #[.int .i64 (k : Int)] 3))
        have HNEW := hide (show ∀ j u, [Value.int .i64 (k : Int)][j]? = some u → (wr.alloc (.cells #[.int .i64 (k : Int)] 3)).cell? ((⟨wr.heap.size, 0, none⟩ : Addr).add j) = some u from new_one wr (.int .i64 (k : Int)) 3)
        have HGE := hide (fun j (h : (Value.slice a L.length cap2).ownBlock = some j) => (HA.out.lt j h).1)
        go_wp2_with fail
        refine HOC.out.mono ?_
        rintro e w5 ⟨rfl, rfl⟩
        go_wp2_with (at_builtin; refine wpList_append_own _ rfl _ _ 46 rfl w.heap.size 3 i0 (.int .i64 0) 1 8 Try.underlying46 HI.out HZ0.out HZ1.out HZ2.out rfl (by decide) (.slice a L.length cap2) L.length (L.map (Value.int .i64)) rfl HA.out ⟨wr.heap.size, 0, none⟩ 1 1 [.int .i64 (k : Int)] rfl rfl HNEW.out (one_int _) (by unfold maxLen; omega) (by omega) HBA.out.size ?_; intro v' w' ho hgr hnil; obtain ⟨a3, c3', rfl⟩ := owns_slice_n ho; have HO6 := hide ho; have HB6 := hide (HBA.out.grown hgr HBA.out.size HGE.out); clear ho hgr hnil)
        go_roundw
        case rel => exact ⟨k + 1, a3, c3', by omega, by go_num, by rw [HN2.out]; simp, by rw [HN2.out]; simpa using HO6.out, HB6.out⟩
        case measure => simp [intOf]; omega
    · obtain rfl : k = pgs := by omega
      go_wp2_with fail
      go_ret
      exact ⟨a, cap2, rfl, HOWN.out, HB.out⟩
end
/-- New of the document: a list of places -/
def NewR (nb pg : Int) (lg : Nat) (w : World) (e : Ending) (w' : World) : Prop := ∃ r g cap : Nat, e = .returned (.pointer (some ⟨r, 0, none⟩)) ∧ RefW w' r g cap nb pg (List.replicate lg none) ∧ Below w.heap.size w w' ∧ w.heap.size ≤ r ∧ w.heap.size ≤ g
theorem new_two (w : World) (u v : Value) (t : Nat) : ∀ (j : Nat) (x : Value), [u, v][j]? = some x → (w.alloc (.cells #[u, v] t)).cell? ((⟨w.heap.size, 0, none⟩ : Addr).add j) = some x := by
  intro j x h
  have e : ((⟨w.heap.size, 0, none⟩ : Addr).add j) = ⟨w.heap.size, j, none⟩ := by rw [Go.WideShapes.add_plain, Nat.zero_add]
  rw [e, cell_of_block (heap_new w _)]
  simpa using h
theorem two_minus : ∀ u ∈ [Value.int .i64 (-1), Value.int .i64 (-1)], u.oneCell' = true := by
  intro u hu
  simp at hu
  subst hu
  rfl
theorem grown_keeps {a b : World} {v : Value} {B : Nat} {o : Obj} (h : a.grownBy b v.ownBlock) (hg : ∀ j, v.ownBlock = some j → B + 1 ≤ j) (ho : a.heap[B]? = some o) (hl : B < a.heap.size) : b.heap[B]? = some o :=
  (h.block B hl (by intro e; have := hg B (by first | exact e | exact e.symm); omega)).trans ho
theorem head_two {a : World} {B : Nat} {x y z : Value} {t : TypeId} (h : a.heap[B]? = some (.cells #[x, y, z] t (0, 0))) : a.cell? ⟨B, 2, none⟩ = some z ∧ a.frozen? ⟨B, 2, none⟩ = false :=
  ⟨by rw [cell_of_block h]; rfl, frozen_of_block h _⟩
theorem owns_set {a : World} {B e n m : Nat} {v u : Value} {xs : List Value} {q j : Nat} (h : a.ownsRow B e m v n xs) (hq : q < B) : (a.setCell ⟨q, j, none⟩ u).ownsRow B e m v n xs := by
  refine ⟨h.1, ?_⟩
  rcases h.2 with h3 | ⟨g, cap', cur, hv, hg, hh, h4⟩
  · exact .inl h3
  · exact .inr ⟨g, cap', cur, hv, hg, by rw [block_setCell_other (by omega)]; exact hh, h4⟩
set_option maxHeartbeats 400000 in
theorem rnew_any (nb pg : Int) (lg : Nat) (h1 : 1 ≤ lg) (h2 : lg ≤ 4096) (w : World) :
    Calls Try.prog 8 #[.int .i64 nb, .int .i64 pg, .int .i64 (lg : Int)] w (NewR nb pg lg w) := by
  obtain ⟨i0, hi, hz0, hz1, hz2⟩ := info_parts (show (Try.prog.info? 42).map (fun i => (i.zero, i.size, i.bytes)) = some (some (.agg #[.int .i64 0, .int .i64 0]), 2, 16) by kernel_rfl)
  have HI := hide hi
  have HZ0 := hide hz0
  have HZ1 := hide hz1
  have HZ2 := hide hz2
  clear hi hz0 hz1 hz2
  go_enter Try.func8, Try.ntmps8
  go_wp2_with fail
  go_loopw [8] (fun i W => ∃ (k : Nat) (a : Option Addr) (cap : Nat), k ≤ lg ∧ i = .int .i64 k ∧ W.heap[w.heap.size]? = some (.cells #[.int .i64 nb, .int .i64 pg, .slice a k cap] 41 (0, 0)) ∧ W.ownsRow (w.heap.size + 1) 42 2 (.slice a k cap) k ((List.replicate k (none : Option (Int × Int))).flatMap refC) ∧ Below w.heap.size w W) (fun i _ => lg - (intOf i).toNat)
  case atStart => exact ⟨0, none, 0, by omega, rfl, heap_new _ _, World.ownsRow_nil _ _ _ _, (Below.refl _ _).alloc (Nat.le_refl _) _⟩
  case round =>
    obtain ⟨k, a, cap, hk, rfl, hH, hown, hB⟩ := hrel
    have HB := hide hB
    have HOWN := hide hown
    have HH := hide hH
    have c2 : wr.cell? ⟨w.heap.size, 2, none⟩ = some (.slice a k cap) := by rw [cell_of_block hH]; rfl
    have hlt0 : w.heap.size < wr.heap.size := heap_lt hH
    clear hown hB hH
    by_cases hlt : k < lg
    · have HA := hide (HOWN.out.alloc (.cells #[.int .i64 (-1), .int .i64 (-1)] 42))
      have HBA := hide (HB.out.alloc HB.out.size (.cells #[.int .i64 (-1), .int .i64 (-1)] 42))
      have HNEW := hide (new_two wr (.int .i64 (-1)) (.int .i64 (-1)) 42)
      have HGE := hide (fun j (h : (Value.slice a k cap).ownBlock = some j) => (HA.out.lt j h).1)
      have HSZ := hide (show w.heap.size + 1 ≤ (wr.alloc (.cells #[.int .i64 (-1), .int .i64 (-1)] 42)).heap.size by simp; omega)
      have HH1 := hide ((heap_old wr (.cells #[.int .i64 (-1), .int .i64 (-1)] 42) w.heap.size hlt0).trans HH.out)
      go_wp2_with (at_builtin; refine wpList_append_own _ rfl _ _ 39 rfl (w.heap.size + 1) 42 i0 (.agg #[.int .i64 0, .int .i64 0]) 2 16 Try.underlying39 HI.out HZ0.out HZ1.out HZ2.out rfl (by decide) (.slice a k cap) k ((List.replicate k (none : Option (Int × Int))).flatMap refC) rfl HA.out ⟨wr.heap.size, 0, none⟩ 1 1 [.int .i64 (-1), .int .i64 (-1)] rfl rfl HNEW.out two_minus (by unfold maxLen; omega) (by omega) HSZ.out ?_; intro v' w' ho hgr hnil; obtain ⟨a3, c3', rfl⟩ := owns_slice_n ho; have HO6 := hide ho; have HB6 := hide (HBA.out.grown hgr HBA.out.size (fun j h => by have := HGE.out j h; omega)); have HH6 := hide (grown_keeps hgr HGE.out HH1.out (by simp; omega)); obtain ⟨c2', f2'⟩ := head_two HH6.out; clear ho hgr hnil)
      go_roundw
      case rel => exact ⟨k + 1, a3, c3', by omega, by go_num, by rw [block_setCell HH6.out]; rfl, by rw [List.replicate_succ', List.flatMap_append]; exact owns_set HO6.out (by omega), HB6.out.setCell (Nat.le_refl _) _⟩
      case measure => simp [intOf]; omega
    · obtain rfl : k = lg := by omega
      go_wp2_with fail
      go_ret
      rcases HOWN.out.2 with ⟨h3, h4⟩ | ⟨g, cap', cur, hv, hg, hh, -, -, -, hx⟩
      · omega
      · simp only [Value.slice.injEq] at hv
        obtain ⟨rfl, -, rfl⟩ := hv
        exact ⟨w.heap.size, g, cap, rfl, ⟨by rw [List.length_replicate]; exact HH.out, ⟨cur, hh, by rw [List.length_replicate]; exact hx⟩, by omega⟩, HB.out, Nat.le_refl _, by omega⟩
end Go.Proofs.Ytfkilcpnjnmnmaa
