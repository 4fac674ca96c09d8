/-
  Layer 11, the program's calls: Count, Spread, New by contracts.
-/
import Derived.Test.YtpgogdnjddeagaaPool2
namespace Go.Proofs.Ytpgogdnjddeagaa
set_option linter.unusedSimpArgs false
set_option linter.unusedVariables false
open Go.RowKit

/-- how many of the first k blocks are so -/
def cntK (L : List (Int × Int)) (s : Int) : Nat → Nat
  | 0 => 0
  | k + 1 => if ((L.getD k (0, 0)).1 == s) = true then cntK L s k + 1 else cntK L s k
theorem cntK_le (L : List (Int × Int)) (s : Int) : ∀ k, cntK L s k ≤ k
  | 0 => Nat.le_refl _
  | k + 1 => by have := cntK_le L s k; unfold cntK; split <;> omega
/-- the least and the greatest wear of the first k blocks that aren't bad -/
def spK (L : List (Int × Int)) : Nat → Int × Int
  | 0 => (-1, 0)
  | k + 1 => if (L.getD k (0, 0)).1 = 3 then spK L k else
      (if (spK L k).1 < 0 ∨ (L.getD k (0, 0)).2 < (spK L k).1 then (L.getD k (0, 0)).2 else (spK L k).1, if (spK L k).2 < (L.getD k (0, 0)).2 then (L.getD k (0, 0)).2 else (spK L k).2)
def spreadZ (L : List (Int × Int)) : Int × Int := (if (spK L L.length).1 < 0 then 0 else (spK L L.length).1, (spK L L.length).2)

theorem count_nil (s : Int) (w : World) : Calls Try.prog 32 #[.pointer none, .int .i64 s] w fun e w' => e = .returned (.int .i64 0) ∧ w = w' := by
  go_enter Try.func32, Try.ntmps32
  go_wp2
  go_ret
  exact ⟨rfl, rfl⟩
set_option maxRecDepth 100000 in
set_option maxHeartbeats 1000000 in
theorem count_any (p q : Nat) (L : List (Int × Int)) (hl : L.length ≤ 1000000) (s : Int) (w : World) (h : PoolAt w p q L) :
    Calls Try.prog 32 #[.pointer (some ⟨p, 0, none⟩), .int .i64 s] w fun e w' => e = .returned (.int .i64 (cntK L s L.length : Int)) ∧ Below w.heap.size w w' := by
  have H := hide h
  obtain ⟨c0, f0⟩ := h.cells
  clear h
  generalize hn : L.length = n at *
  have HN := hide hn
  clear hn f0
  go_enter Try.func32, Try.ntmps32
  go_wp2_with fail
  clear c0
  go_loopw [5, 15] (fun c i W => ∃ k : Nat, k ≤ n ∧ i = .int .i64 k ∧ c = .int .i64 (cntK L s k : Int) ∧ Below w.heap.size w W) (fun _ i _ => n - (intOf i).toNat)
  case atStart => exact ⟨0, by omega, rfl, rfl, Below.refl _ _⟩
  case round =>
    obtain ⟨k, hk, rfl, rfl, hB⟩ := hrel
    have hP := H.out.below hB
    have HB := hide hB
    have hck := cntK_le L s k
    by_cases hlt : k < n
    · obtain ⟨c1, c2, f1, f2⟩ := hP.at k (by rw [HN.out]; exact hlt)
      have hnx := hide (show cntK L s (k + 1) = if ((L.getD k (0, 0)).1 == s) = true then cntK L s k + 1 else cntK L s k from rfl)
      clear hP hB f1 f2
      generalize (L.getD k (0, 0)).1 = x at *
      generalize (L.getD k (0, 0)).2 = y at *
      generalize cntK L s k = c at *
      by_cases hx : (x == s) = true
      · go_wp2_with fail
        go_roundw
        case rel => exact ⟨k + 1, by omega, by go_num, by rw [hnx.out, if_pos hx]; go_num, HB.out.alloc HB.out.size _⟩
        case measure => simp [intOf]; omega
      · have hx' : (x == s) = false := by simpa using hx
        go_wp2_with fail
        go_roundw
        case rel => exact ⟨k + 1, by omega, by go_num, by rw [hnx.out, if_neg hx], HB.out.alloc HB.out.size _⟩
        case measure => simp [intOf]; omega
    · obtain rfl : k = n := by omega
      clear hP hB
      go_wp2_with fail
      go_ret
      exact ⟨rfl, HB.out⟩

theorem spread_nil (w : World) : Calls Try.prog 16 #[.pointer none] w fun e w' => e = .returned (.tuple #[.int .i64 0, .int .i64 0]) ∧ w = w' := by
  go_enter Try.func16, Try.ntmps16
  go_wp2
  go_ret2
  exact ⟨rfl, rfl⟩
set_option maxRecDepth 100000 in
set_option maxHeartbeats 1000000 in
theorem spread_any (p q : Nat) (L : List (Int × Int)) (hl : L.length ≤ 1000000) (w : World) (h : PoolAt w p q L) :
    Calls Try.prog 16 #[.pointer (some ⟨p, 0, none⟩)] w fun e w' => e = .returned (.tuple #[.int .i64 (spreadZ L).1, .int .i64 (spreadZ L).2]) ∧ Below w.heap.size w w' := by
  have H := hide h
  obtain ⟨c0, f0⟩ := h.cells
  have HS := hide (show spreadZ L = (if (spK L L.length).1 < 0 then 0 else (spK L L.length).1, (spK L L.length).2) from rfl)
  clear h
  generalize spreadZ L = Z at *
  generalize hn : L.length = n at *
  have HN := hide hn
  clear hn f0
  go_enter Try.func16, Try.ntmps16
  go_wp2_with fail
  clear c0
  go_loopw [4, 5, 15] (fun a b i W => ∃ k : Nat, k ≤ n ∧ i = .int .i64 k ∧ a = .int .i64 (spK L k).1 ∧ b = .int .i64 (spK L k).2 ∧ Below w.heap.size w W) (fun _ _ i _ => n - (intOf i).toNat)
  case atStart => exact ⟨0, by omega, rfl, rfl, rfl, Below.refl _ _⟩
  case round =>
    obtain ⟨k, hk, rfl, rfl, rfl, hB⟩ := hrel
    have hP := H.out.below hB
    have HB := hide hB
    by_cases hlt : k < n
    · obtain ⟨c1, c2, f1, f2⟩ := hP.at k (by rw [HN.out]; exact hlt)
      have hnx := hide (show spK L (k + 1) = if (L.getD k (0, 0)).1 = 3 then spK L k else
      (if (spK L k).1 < 0 ∨ (L.getD k (0, 0)).2 < (spK L k).1 then (L.getD k (0, 0)).2 else (spK L k).1, if (spK L k).2 < (L.getD k (0, 0)).2 then (L.getD k (0, 0)).2 else (spK L k).2) from rfl)
      clear hP hB f1 f2
      generalize (L.getD k (0, 0)).1 = x at *
      generalize (L.getD k (0, 0)).2 = y at *
      generalize spK L k = z at *
      obtain ⟨lo, hi⟩ := z
      by_cases hx : x = 3
      · have HX := hide hx
        have hx1 : (x == 3) = true := by simp [hx]
        clear hx
        go_wp2_with fail
        go_roundw
        case rel => exact ⟨k + 1, by omega, by go_num, by rw [hnx.out, if_pos HX.out], by rw [hnx.out, if_pos HX.out], HB.out.alloc HB.out.size _⟩
        case measure => simp [intOf]; omega
      · have HX := hide hx
        have hx1 : (x == 3) = false := by simp [hx]
        clear hx
        by_cases hm : hi < y
        all_goals
          by_cases h1 : lo < 0
          · go_wp2_with fail
            go_roundw
            case rel => exact ⟨k + 1, by omega, by go_num, by rw [hnx.out, if_neg HX.out, if_pos (Or.inl h1)], by rw [hnx.out, if_neg HX.out]; first | rw [if_pos hm] | rw [if_neg hm], HB.out.alloc HB.out.size _⟩
            case measure => simp [intOf]; omega
          · by_cases h2 : y < lo
            · go_wp2_with fail
              go_roundw
              case rel => exact ⟨k + 1, by omega, by go_num, by rw [hnx.out, if_neg HX.out, if_pos (Or.inr h2)], by rw [hnx.out, if_neg HX.out]; first | rw [if_pos hm] | rw [if_neg hm], HB.out.alloc HB.out.size _⟩
              case measure => simp [intOf]; omega
            · go_wp2_with fail
              go_roundw
              case rel => exact ⟨k + 1, by omega, by go_num, by rw [hnx.out, if_neg HX.out, if_neg (by omega)], by rw [hnx.out, if_neg HX.out]; first | rw [if_pos hm] | rw [if_neg hm], HB.out.alloc HB.out.size _⟩
              case measure => simp [intOf]; omega
    · obtain rfl : k = n := by omega
      clear hP hB
      generalize spK L k = z at *
      obtain ⟨lo, hi⟩ := z
      by_cases h1 : lo < 0
      · have HZ := hide (show Z = (0, hi) by rw [HS.out]; simp only [if_pos h1])
        go_wp2_with fail
        go_ret2
        exact ⟨by rw [HZ.out]; rfl, HB.out⟩
      · have HZ := hide (show Z = (lo, hi) by rw [HS.out]; simp only [if_neg h1])
        have h2 : ¬ lo < 0 := h1
        go_wp2_with fail
        go_ret2
        exact ⟨by rw [HZ.out]; first | rfl | (congr 4; omega), HB.out⟩

theorem made_pairs (n : Nat) : madeCells #[Value.int .i64 0, Value.int .i64 0] (n * 2) = (flat2 (List.replicate n (0, 0))).toArray := by
  apply Array.toList_inj.1
  apply List.ext_getElem?
  intro j
  have hz : ∀ i, i < n → ((List.replicate n ((0 : Int), (0 : Int))).getD i (0, 0)) = (0, 0) := fun i hi => by simp [List.getD, hi]
  by_cases hj : j < n * 2
  · have h1 : (madeCells #[Value.int .i64 0, Value.int .i64 0] (n * 2)).toList[j]? = some (Value.int .i64 0) := by
      simp only [madeCells, Array.toList_map, Array.toList_range, List.getElem?_map, List.getElem?_range hj, Option.map_some]
      rcases Nat.mod_two_eq_zero_or_one j with h | h <;> simp [h]
    rw [h1]
    rcases Nat.mod_two_eq_zero_or_one j with h | h
    · have := flat2_fst (List.replicate n (0, 0)) (j / 2) (by simp; omega)
      rw [hz _ (by omega), show j / 2 * 2 = j by omega] at this
      simpa using this.symm
    · have := flat2_snd (List.replicate n (0, 0)) (j / 2) (by simp; omega)
      rw [hz _ (by omega), show j / 2 * 2 + 1 = j by omega] at this
      simpa using this.symm
  · rw [List.getElem?_eq_none (by simp [size_madeCells]; omega), List.getElem?_eq_none (by simp [flat2_length]; omega)]

/-- the blocks behind k rounds of New -/
def newK (n k : Nat) : List (Int × Int) := List.replicate k (1, 0) ++ List.replicate (n - k) (0, 0)
theorem newK_length (n k : Nat) (h : k ≤ n) : (newK n k).length = n := by simp [newK]; omega
theorem newK_next (n k : Nat) (h : k < n) : (newK n k).set k (1, ((newK n k).getD k (0, 0)).2) = newK n (k + 1) := by
  unfold newK
  rw [show n - k = (n - (k + 1)) + 1 by omega, List.replicate_succ, List.set_append_right _ _ (by simp)]
  simp [List.getD, List.replicate_succ', List.append_assoc]
theorem new_no (n : Int) (h : n < 1 ∨ 256 < n) (w : World) : Calls Try.prog 18 #[.int .i64 n] w fun e w' => e = .returned (.tuple #[.pointer none, .int .i64 2]) ∧ w = w' := by
  rcases h with h | h
  · go_enter Try.func18, Try.ntmps18
    go_wp2
    go_ret2
    exact ⟨rfl, rfl⟩
  · have h1 : ¬ n < 1 := by omega
    go_enter Try.func18, Try.ntmps18
    go_wp2
    go_ret2
    exact ⟨rfl, rfl⟩
theorem make_pairs (n : Nat) (h : n ≤ 256) (W : World) : (Instr.makeSlice 75 (.int .i64 (n : Int)) (.int .i64 (n : Int))).run Try.prog W = .ok (.slice (some ⟨W.heap.size, 0, none⟩) n n) (W.alloc (.cells (flat2 (List.replicate n (0, 0))).toArray 70)) := by
  obtain ⟨i, hi, hz, hs, hbb⟩ := info_parts (show (Try.prog.info? 70).map (fun i => (i.zero, i.size, i.bytes)) = some (some (.agg #[.int .i64 0, .int .i64 0]), 2, 16) by kernel_rfl)
  have hr := run_make (P := Try.prog) W 75 70 i _ Try.underlying75 hi hz .i64 .i64 n n (by omega) (Int.le_refl _) (by rw [hbb]; omega) (by omega)
  rw [hs, Int.toNat_natCast] at hr
  rw [hr, show (Value.agg #[.int .i64 0, .int .i64 0]).cells = #[.int .i64 0, .int .i64 0] from rfl, made_pairs]
set_option maxRecDepth 100000 in
set_option maxHeartbeats 1000000 in
theorem new_yes (n : Nat) (h0 : 1 ≤ n) (h1 : n ≤ 256) (w : World) :
    Calls Try.prog 18 #[.int .i64 (n : Int)] w fun e w' => e = .returned (.tuple #[.pointer (some ⟨w.heap.size + 1, 0, none⟩), .int .i64 0]) ∧ PoolAt w' (w.heap.size + 1) w.heap.size (List.replicate n (1, 0)) ∧ Below w.heap.size w w' := by
  have hmk := make_pairs n h1
  have H0 := hide (show PoolAt ((w.alloc (.cells (flat2 (List.replicate n (0, 0))).toArray 70)).alloc (.cells #[.slice (some ⟨w.heap.size, 0, none⟩) n n] 77)) (w.heap.size + 1) w.heap.size (newK n 0) from
    ⟨by have := heap_new (w.alloc (.cells (flat2 (List.replicate n (0, 0))).toArray 70)) (.cells #[.slice (some ⟨w.heap.size, 0, none⟩) n n] 77); rw [newK_length n 0 (by omega)]; simpa using this,
     by rw [heap_old _ _ _ (by simp), heap_new]; simp [newK], by omega⟩)
  go_enter Try.func18, Try.ntmps18
  go_wp2_with fail
  clear hmk
  go_loopw [21] (fun i W => ∃ k : Nat, k ≤ n ∧ i = .int .i64 k ∧ PoolAt W (w.heap.size + 1) w.heap.size (newK n k) ∧ Below w.heap.size w W) (fun i _ => n - (intOf i).toNat)
  case atStart => exact ⟨0, by omega, rfl, H0.out, ((Below.refl _ _).alloc (Nat.le_refl _) _).alloc (by simp) _⟩
  case round =>
    obtain ⟨k, hk, rfl, hP, hB⟩ := hrel
    have HP := hide hP
    have HB := hide hB
    by_cases hlt : k < n
    · obtain ⟨c0, f0⟩ := hP.cells
      rw [newK_length n k hk] at c0
      obtain ⟨c1, c2, f1, f2⟩ := hP.at k (by rw [newK_length n k hk]; exact hlt)
      have hset := hP.setFst k (by rw [newK_length n k hk]; exact hlt) 1
      rw [newK_next n k hlt] at hset
      have HSET := hide hset
      clear hP hB f0 f2 hset c2
      generalize ((newK n k).getD k (0, 0)).1 = x at *
      go_wp2_with fail
      go_roundw
      case rel => exact ⟨k + 1, by omega, by go_num, HSET.out, HB.out.setCell (Nat.le_refl _) _⟩
      case measure => simp [intOf]; omega
    · obtain rfl : k = n := by omega
      have HF := hide (show PoolAt wr (w.heap.size + 1) w.heap.size (List.replicate k (1, 0)) by have := hP; rw [show newK k k = List.replicate k (1, 0) by simp [newK]] at this; exact this)
      clear hP hB
      go_wp2_with fail
      go_ret2
      exact ⟨rfl, HF.out, HB.out⟩
end Go.Proofs.Ytpgogdnjddeagaa
