/-
  Layer 12, the program's calls, fifth part: Of.
-/
import Derived.Test.YtfkilcpnjnmnmaaLaw12
--import Derived.Test.Zdbg
namespace Go.Proofs.Ytfkilcpnjnmnmaa
set_option linter.unusedSimpArgs false
set_option linter.unusedVariables false
open Go.RowKit Go.Maps W

theorem new_one (w : World) (v : Value) (t : Nat) : ∀ (j : Nat) (u : Value), [v][j]? = some u → (w.alloc (.cells #[v] t)).cell? ((⟨w.heap.size, 0, none⟩ : Addr).add j) = some u := by
  intro j u h
  have e : (⟨w.heap.size, 0, none⟩ : Addr).add j = ⟨w.heap.size, j, none⟩ := by
    rw [Go.WideShapes.add_plain, Nat.zero_add]
  rw [e, World.cell?_alloc_new]
  simpa using h
theorem one_int (x : Int) : ∀ u ∈ [Value.int .i64 x], u.oneCell' = true := by
  intro u hu
  simp at hu
  subst hu
  rfl
/-- at which of the first k pages of a block logical ones are -/
def ofL (S : Spots) (b : Int) (k : Nat) : List Int := ((List.range k).filter (fun n : Nat => (owner S (b, (n : Int))).isSome)).map (fun n : Nat => (n : Int))
theorem ofL_next (S : Spots) (b : Int) (k : Nat) : ofL S b (k + 1) = ofL S b k ++ if (owner S (b, (k : Int))).isSome = true then [(k : Int)] else [] := by
  unfold ofL
  rw [List.range_succ, List.filter_append, List.map_append]
  congr 1
  by_cases h : (owner S (b, (k : Int))).isSome = true
  · simp [List.filter_cons, h]
  · simp only [List.filter_cons, h, if_false]
    rfl
theorem ofL_len (S : Spots) (b : Int) (k : Nat) : (ofL S b k).length ≤ k := by
  unfold ofL
  rw [List.length_map]
  have := List.length_filter_le (fun n : Nat => (owner S (b, (n : Int))).isSome) (List.range k)
  simpa using this
theorem ofL_none {S : Spots} {b : Int} (h : ∀ n : Int, owner S (b, n) = none) (k : Nat) : ofL S b k = [] := by
  unfold ofL
  rw [List.filter_eq_nil_iff.2 (fun n _ => by rw [h]; simp)]
  rfl
/-- the pages of a block, as Of tells them -/
def OfIs (L : List Int) (w : World) (e : Ending) (w' : World) : Prop := ∃ (a : Option Addr) (cap : Nat), e = .returned (.slice a L.length cap) ∧ w'.ownsRow w.heap.size 3 1 (.slice a L.length cap) L.length (L.map (Value.int .i64)) ∧ Below w.heap.size w w'
section
variable {w : World} {p q o l : Nat} {nb pgs : Nat} {S : Spots}
theorem of_empty (h : WhereAt w p q o l (pgs : Int) nb S) (b : Int) (hz : b < 0 ∨ (nb : Int) ≤ b ∨ liveN S b = 0) :
    Calls Try.prog 16 #[.pointer (some ⟨p, 0, none⟩), .int .i64 b] w (OfIs [] w) := by
  have hv : Calls Try.prog 18 #[.pointer (some ⟨p, 0, none⟩), .int .i64 b] w fun e w' => e = .returned (.int .i64 0) ∧ w = w' := by
    by_cases hb : b < 0 ∨ (nb : Int) ≤ b
    · exact live_no h b hb
    · obtain ⟨b', rfl⟩ := Int.eq_ofNat_of_zero_le (show 0 ≤ b by omega)
      have := live_yes h b' (by omega)
      rw [show liveN S (b' : Int) = 0 by omega] at this
      exact this
  have HV := hide hv
  clear h hz hv
  go_enter Try.func16, Try.ntmps16
  go_wp2_with fail
  refine HV.out.mono ?_
  rintro e w1 ⟨rfl, rfl⟩
  go_wp2
  go_ret
  exact ⟨none, 0, rfl, World.ownsRow_nil _ _ _ _, Below.refl _ _⟩
set_option maxHeartbeats 400000 in
theorem of_some (h : WhereAt w p q o l (pgs : Int) nb S) (b : Nat) (hb : b < nb) (hz : 1 ≤ liveN S (b : Int)) :
    Calls Try.prog 16 #[.pointer (some ⟨p, 0, none⟩), .int .i64 (b : Int)] w (OfIs (ofL S (b : Int) pgs) w) := by
  obtain ⟨i0, hi, hz0, hz1, hz2⟩ := info_parts (show (Try.prog.info? 3).map (fun i => (i.zero, i.size, i.bytes)) = some (some (.int .i64 0), 1, 8) by kernel_rfl)
  have HI := hide hi
  have HZ0 := hide hz0
  have HZ1 := hide hz1
  have HZ2 := hide hz2
  have HW := hide h
  have hpg : pgs ≤ 64 := by have := h.big.1; omega
  have hb64 : b ≤ 256 := by have := h.big.2.1; omega
  obtain ⟨c0, -, -, -⟩ := h.cells
  have HV := hide (live_yes h b hb)
  have hx1 : (1 : Int) ≤ ((liveN S (b : Int) : Nat) : Int) := by omega
  generalize ((liveN S (b : Int) : Nat) : Int) = x at *
  have hx0 : (x == 0) = false := by simp; omega
  clear h hz hi hz0 hz1 hz2
  go_enter Try.func16, Try.ntmps16
  go_wp2_with fail
  refine HV.out.mono ?_
  rintro e w1 ⟨rfl, rfl⟩
  go_wp2_with fail
  go_loopw [5, 15] (fun s i W => ∃ (k : Nat) (a : Option Addr) (cap : Nat), k ≤ pgs ∧ i = .int .i64 k ∧ s = .slice a (ofL S (b : Int) k).length cap ∧ W.ownsRow w.heap.size 3 1 (.slice a (ofL S (b : Int) k).length cap) (ofL S (b : Int) k).length ((ofL S (b : Int) k).map (Value.int .i64)) ∧ Below w.heap.size w W) (fun s i _ => pgs - (intOf i).toNat)
  case atStart => exact ⟨0, none, 0, by omega, rfl, rfl, World.ownsRow_nil _ _ _ _, Below.refl _ _⟩
  case round =>
    obtain ⟨k, a, cap, hk, rfl, rfl, hown, hB⟩ := hrel
    have HB := hide hB
    have HOWN := hide hown
    have HXW := hide (HW.out.below hB)
    clear hown hB
    by_cases hlt : k < pgs
    · have HNX := hide (ofL_next S (b : Int) k)
      have HLE := hide (ofL_len S (b : Int) k)
      have HOZ := hide (show ownZ S (b : Int) (k : Int) = match owner S ((b : Int), (k : Int)) with | some i => (i : Int) | none => -1 from rfl)
      have HOC := hide (owner_any HXW.out (b : Int) (k : Int) ⟨by omega, by omega⟩ ⟨by omega, by omega⟩)
      generalize ofL S (b : Int) k = L at *
      cases ho : owner S ((b : Int), (k : Int)) with
      | none =>
        have HN2 := hide (show ofL S (b : Int) (k + 1) = L by have := HNX.out; rw [ho] at this; simpa using this)
        rw [ho] at HOZ
        simp only at HOZ
        rw [HOZ.out] at HOC
        clear ho HNX HOZ
        go_wp2_with fail
        refine HOC.out.mono ?_
        rintro e w5 ⟨rfl, hb5⟩
        have HO5 := hide (owns_below HOWN.out hb5)
        have HB5 := hide (HB.out.trans (hb5.mono HB.out.size))
        clear hb5 HOWN HB HOC HXW
        go_wp2_with fail
        go_roundw
        case rel => exact ⟨k + 1, a, cap, by omega, by go_num, by rw [HN2.out], by rw [HN2.out]; exact HO5.out, HB5.out⟩
        case measure => simp [intOf]; omega
      | some j =>
        have HN2 := hide (show ofL S (b : Int) (k + 1) = L ++ [(k : Int)] by have := HNX.out; rw [ho] at this; simpa using this)
        rw [ho] at HOZ
        simp only at HOZ
        rw [HOZ.out] at HOC
        have hj : ((j : Int) == -1) = false := by simp
        have hll : L.length ≤ 64 := by have := HLE.out; omega
        clear ho HNX HOZ
        go_wp2_with fail
        refine HOC.out.mono ?_
        rintro e w5 ⟨rfl, hb5⟩
        have HO5 := hide (owns_below HOWN.out hb5)
        have HB5 := hide (HB.out.trans (hb5.mono HB.out.size))
        clear hb5 HOWN HB HOC HXW
        have HA := hide (HO5.out.alloc (.cells #[.int .i64 (k : Int)] 3))
        have HBA := hide (HB5.out.alloc HB5.out.size (.cells #[.int .i64 (k : Int)] 3))
        have HNEW := hide (show ∀ j u, [Value.int .i64 (k : Int)][j]? = some u → (w5.alloc (.cells #[.int .i64 (k : Int)] 3)).cell? ((⟨w5.heap.size, 0, none⟩ : Addr).add j) = some u from new_one w5 (.int .i64 (k : Int)) 3)
        have HGE := hide (fun j (h : (Value.slice a L.length cap).ownBlock = some j) => (HA.out.lt j h).1)
        go_wp2_with (at_builtin; refine wpList_append_own _ rfl _ _ 46 rfl w.heap.size 3 i0 (.int .i64 0) 1 8 Try.underlying46 HI.out HZ0.out HZ1.out HZ2.out rfl (by decide) (.slice a L.length cap) L.length (L.map (Value.int .i64)) rfl HA.out ⟨w5.heap.size, 0, none⟩ 1 1 [.int .i64 (k : Int)] rfl rfl HNEW.out (one_int _) (by unfold maxLen; omega) (by omega) HBA.out.size ?_; intro v' w' ho hgr hnil; obtain ⟨a3, c3', rfl⟩ := owns_slice_n ho; have HO6 := hide ho; have HB6 := hide (HBA.out.grown hgr HBA.out.size HGE.out); clear ho hgr hnil)
        go_roundw
        case rel => exact ⟨k + 1, a3, c3', by omega, by go_num, by rw [HN2.out]; simp, by rw [HN2.out]; simpa using HO6.out, HB6.out⟩
        case measure => simp [intOf]; omega
    · obtain rfl : k = pgs := by omega
      go_wp2_with fail
      go_ret
      exact ⟨a, cap, rfl, HOWN.out, HB.out⟩
theorem of_any (h : WhereAt w p q o l (pgs : Int) nb S) (b : Int) :
    Calls Try.prog 16 #[.pointer (some ⟨p, 0, none⟩), .int .i64 b] w (OfIs (ofL S b pgs) w) := by
  by_cases hz : b < 0 ∨ (nb : Int) ≤ b ∨ liveN S b = 0
  · have hn : ∀ n : Int, owner S (b, n) = none := by
      intro n
      cases ho : owner S (b, n) with
      | none => rfl
      | some i =>
        exfalso
        have hs := owner_some ho
        have hk := h.ok i b n hs
        have := live_pos S i b n (by simp only [List.getD, hs, Option.getD_some])
        omega
    rw [ofL_none hn]
    exact of_empty h b hz
  · obtain ⟨b', rfl⟩ := Int.eq_ofNat_of_zero_le (show 0 ≤ b by omega)
    exact of_some h b' (by omega) (by omega)
end
end Go.Proofs.Ytfkilcpnjnmnmaa
