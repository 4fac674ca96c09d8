/-
  Layer 11: the document's pool by contracts.
-/
import Derived.Test.YtbkbigpijdljpaaPool3
import Derived.Test.YtbkbigpijdljpaaKitG
namespace Go.Proofs.Ytbkbigpijdljpaa
set_option linter.unusedSimpArgs false
set_option linter.unusedVariables false
open Go.RowKit

def fsts (L : List (Int × Int)) : List Value := L.map fun x => .int .i64 x.1
def snds (L : List (Int × Int)) : List Value := L.map fun x => .int .i64 x.2
theorem fsts_at (L : List (Int × Int)) (i : Nat) (h : i < L.length) : (fsts L)[i]? = some (.int .i64 (L.getD i (0, 0)).1) := by simp [fsts, List.getD, h]
theorem snds_at (L : List (Int × Int)) (i : Nat) (h : i < L.length) : (snds L)[i]? = some (.int .i64 (L.getD i (0, 0)).2) := by simp [snds, List.getD, h]
theorem fsts_set1 (L : List (Int × Int)) (i : Nat) (v : Int) : (fsts L).set i (.int .i64 v) = fsts (L.set i (v, (L.getD i (0, 0)).2)) := by
  simp [fsts, List.map_set]
theorem snds_set2 (L : List (Int × Int)) (i : Nat) (v : Int) : (snds L).set i (.int .i64 v) = snds (L.set i ((L.getD i (0, 0)).1, v)) := by
  simp [snds, List.map_set]
theorem set_self' (l : List Value) (i : Nat) (v : Value) (h : i < l.length) (hv : l[i]? = some v) : l.set i v = l := by
  rw [List.getElem?_eq_getElem h, Option.some.injEq] at hv
  rw [← hv]
  exact List.set_getElem_self h
theorem fsts_set2 (L : List (Int × Int)) (i : Nat) (h : i < L.length) (v : Int) : fsts (L.set i ((L.getD i (0, 0)).1, v)) = fsts L := by
  unfold fsts
  rw [List.map_set]
  exact set_self' _ _ _ (by simpa using h) (by simp [List.getD, h])
theorem snds_set1 (L : List (Int × Int)) (i : Nat) (h : i < L.length) (v : Int) : snds (L.set i (v, (L.getD i (0, 0)).2)) = snds L := by
  unfold snds
  rw [List.map_set]
  exact set_self' _ _ _ (by simpa using h) (by simp [List.getD, h])
/-- the document's pool: its head, the states, the wears -/
structure RPAt (w : World) (r s t : Nat) (L : List (Int × Int)) : Prop where
  head : w.heap[r]? = some (.cells #[.slice (some ⟨s, 0, none⟩) L.length L.length, .slice (some ⟨t, 0, none⟩) L.length L.length] 43 (0, 0))
  st : w.heap[s]? = some (.cells (fsts L).toArray 3 (0, 0))
  we : w.heap[t]? = some (.cells (snds L).toArray 3 (0, 0))
  n1 : r ≠ s
  n2 : r ≠ t
  n3 : s ≠ t
theorem RPAt.below {w w' : World} {r s t : Nat} {L : List (Int × Int)} (h : RPAt w r s t L) (hb : Below w.heap.size w w') : RPAt w' r s t L :=
  ⟨by rw [hb.block r (heap_lt h.head)]; exact h.head, by rw [hb.block s (heap_lt h.st)]; exact h.st, by rw [hb.block t (heap_lt h.we)]; exact h.we, h.n1, h.n2, h.n3⟩
theorem RPAt.only {w w' : World} {r s t q : Nat} {L : List (Int × Int)} (h : RPAt w r s t L) (hb : Only q w w') (q1 : r ≠ q) (q2 : s ≠ q) (q3 : t ≠ q) : RPAt w' r s t L :=
  ⟨by rw [hb.block r (heap_lt h.head) q1]; exact h.head, by rw [hb.block s (heap_lt h.st) q2]; exact h.st, by rw [hb.block t (heap_lt h.we) q3]; exact h.we, h.n1, h.n2, h.n3⟩
theorem RPAt.drews {w : World} {r s t : Nat} {L : List (Int × Int)} (h : RPAt w r s t L) (k : Nat) : RPAt (w.drewN k) r s t L := ⟨h.head, h.st, h.we, h.n1, h.n2, h.n3⟩
theorem Only.drews {q : Nat} {a b : World} (h : Only q a b) (k : Nat) : Only q a (b.drewN k) := ⟨h.os, h.tape, h.output, h.size, h.block⟩
theorem RPAt.drew {w : World} {r s t : Nat} {L : List (Int × Int)} (h : RPAt w r s t L) : RPAt w.drew r s t L := ⟨h.head, h.st, h.we, h.n1, h.n2, h.n3⟩
theorem PoolAt.only {w w' : World} {p q k : Nat} {L : List (Int × Int)} (h : PoolAt w p q L) (hb : Only k w w') (q1 : p ≠ k) (q2 : q ≠ k) : PoolAt w' p q L :=
  ⟨by rw [hb.block p (heap_lt h.head) q1]; exact h.head, by rw [hb.block q (heap_lt h.row) q2]; exact h.row, h.ne⟩
theorem RPAt.cells {w : World} {r s t : Nat} {L : List (Int × Int)} (h : RPAt w r s t L) :
    w.cell? ⟨r, 0, none⟩ = some (.slice (some ⟨s, 0, none⟩) L.length L.length) ∧ w.cell? ⟨r, 1, none⟩ = some (.slice (some ⟨t, 0, none⟩) L.length L.length) := ⟨by rw [cell_of_block h.head]; rfl, by rw [cell_of_block h.head]; rfl⟩
theorem RPAt.at {w : World} {r s t : Nat} {L : List (Int × Int)} (h : RPAt w r s t L) (i : Nat) (hi : i < L.length) :
    w.cell? ⟨s, i, none⟩ = some (.int .i64 (L.getD i (0, 0)).1) ∧ w.cell? ⟨t, i, none⟩ = some (.int .i64 (L.getD i (0, 0)).2) ∧ w.frozen? ⟨s, i, none⟩ = false ∧ w.frozen? ⟨t, i, none⟩ = false :=
  ⟨by rw [cell_of_block h.st]; simpa using fsts_at L i hi, by rw [cell_of_block h.we]; simpa using snds_at L i hi, frozen_of_block h.st _, frozen_of_block h.we _⟩
theorem RPAt.setFst {w : World} {r s t : Nat} {L : List (Int × Int)} (h : RPAt w r s t L) (i : Nat) (hi : i < L.length) (v : Int) : RPAt (w.setCell ⟨s, i, none⟩ (.int .i64 v)) r s t (L.set i (v, (L.getD i (0, 0)).2)) :=
  ⟨by rw [block_setCell_other (Ne.symm h.n1), h.head]; simp, by rw [block_setCell h.st, ← fsts_set1 L i v]; simp, by rw [block_setCell_other h.n3, h.we, snds_set1 L i hi], h.n1, h.n2, h.n3⟩
theorem RPAt.setSnd {w : World} {r s t : Nat} {L : List (Int × Int)} (h : RPAt w r s t L) (i : Nat) (hi : i < L.length) (v : Int) : RPAt (w.setCell ⟨t, i, none⟩ (.int .i64 v)) r s t (L.set i ((L.getD i (0, 0)).1, v)) :=
  ⟨by rw [block_setCell_other (Ne.symm h.n2), h.head]; simp, by rw [block_setCell_other (Ne.symm h.n3), h.st, fsts_set2 L i hi], by rw [block_setCell h.we, ← snds_set2 L i v]; simp, h.n1, h.n2, h.n3⟩

set_option maxRecDepth 100000 in
set_option maxHeartbeats 1000000 in
theorem rset_any (r s t : Nat) (L : List (Int × Int)) (hl : L.length ≤ 1000000) (i v : Int) (w : World) (h : RPAt w r s t L) :
    Calls Try.prog 11 #[.pointer (some ⟨r, 0, none⟩), .int .i64 i, .int .i64 v] w fun e w' => e = .returned (.int .i64 (setE L i v)) ∧ RPAt w' r s t (setL L i v) ∧ Only s w w' := by
  have H := hide h
  obtain ⟨c0, c1⟩ := h.cells
  by_cases hi : 0 ≤ i ∧ i < L.length
  · have hi2 := hi
    obtain ⟨i0, i1⟩ := hi
    obtain ⟨n, rfl⟩ := Int.eq_ofNat_of_zero_le i0
    have hn : n < L.length := by omega
    obtain ⟨a0, a1, f0, f1⟩ := h.at n hn
    have he : setE L n v = if v < 1 ∨ 3 < v then 2 else if (L.getD n (0, 0)).1 = 3 then 12 else 0 := by rw [setE, if_pos hi2, Int.toNat_natCast]
    have hll : setL L n v = if setE L n v = 0 then L.set n (v, (L.getD n (0, 0)).2) else L := by rw [setL, Int.toNat_natCast]
    have HX := hide (h.setFst n hn v)
    have hin : ¬ (n : Int) < 0 := by omega
    have hil : ¬ (L.length : Int) ≤ n := by omega
    by_cases hs : v < 1 ∨ 3 < v
    · rw [if_pos hs] at he
      rw [he] at hll
      rw [he, hll, if_neg (by omega)]
      clear h he hll hi2
      rcases hs with hs | hs
      · go_enter Try.func11, Try.ntmps11
        go_wp2
        go_ret
        exact ⟨rfl, H.out, Only.refl _ _⟩
      · have hs' : ¬ v < 1 := by omega
        go_enter Try.func11, Try.ntmps11
        go_wp2
        go_ret
        exact ⟨rfl, H.out, Only.refl _ _⟩
    · rw [if_neg hs] at he
      have s1 : 1 ≤ v := by omega
      have s3 : v ≤ 3 := by omega
      have s1' : ¬ v < 1 := by omega
      have s3' : ¬ 3 < v := by omega
      by_cases hx : (L.getD n (0, 0)).1 = 3
      · rw [if_pos hx] at he
        rw [he] at hll
        rw [he, hll, if_neg (by omega)]
        rw [hx] at a0
        clear h he hll hs hx hi2
        go_enter Try.func11, Try.ntmps11
        go_wp2
        go_ret
        exact ⟨rfl, H.out, Only.refl _ _⟩
      · rw [if_neg hx] at he
        rw [he] at hll
        rw [he, hll, if_pos rfl]
        have hxx : ((L.getD n (0, 0)).1 == 3) = false := by simp only [beq_eq_false_iff_ne]; exact hx
        generalize L.set n (v, (L.getD n (0, 0)).2) = M at *
        generalize (L.getD n (0, 0)).1 = x at *
        clear h he hll hs hx hi2
        go_enter Try.func11, Try.ntmps11
        go_wp2
        go_ret
        exact ⟨rfl, HX.out, Only.setCell _ _ _⟩
  · have he : setE L i v = 3 := by rw [setE, if_neg hi]
    have hll : setL L i v = L := by rw [setL, he]; rfl
    rw [he, hll]
    clear h he hll
    by_cases hi0 : i < 0
    · clear hi
      go_enter Try.func11, Try.ntmps11
      go_wp2
      go_ret
      exact ⟨rfl, H.out, Only.refl _ _⟩
    · have hi1 : (L.length : Int) ≤ i := by omega
      clear hi
      go_enter Try.func11, Try.ntmps11
      go_wp2
      go_ret
      exact ⟨rfl, H.out, Only.refl _ _⟩
set_option maxRecDepth 100000 in
set_option maxHeartbeats 1000000 in
theorem rworn_any (r s t : Nat) (L : List (Int × Int)) (hl : L.length ≤ 1000000) (i v : Int) (w : World) (h : RPAt w r s t L) :
    Calls Try.prog 13 #[.pointer (some ⟨r, 0, none⟩), .int .i64 i, .int .i64 v] w fun e w' => e = .returned (.int .i64 (wornE L i v)) ∧ RPAt w' r s t (wornL L i v) ∧ Only t w w' := by
  have H := hide h
  obtain ⟨c0, c1⟩ := h.cells
  by_cases hi : 0 ≤ i ∧ i < L.length
  · have hi2 := hi
    obtain ⟨i0, i1⟩ := hi
    obtain ⟨n, rfl⟩ := Int.eq_ofNat_of_zero_le i0
    have hn : n < L.length := by omega
    obtain ⟨a0, a1, f0, f1⟩ := h.at n hn
    have he : wornE L n v = if v < 0 then 2 else 0 := by rw [wornE, if_pos hi2]
    have hll : wornL L n v = if wornE L n v = 0 then L.set n ((L.getD n (0, 0)).1, v) else L := by rw [wornL, Int.toNat_natCast]
    have HX := hide (h.setSnd n hn v)
    have hin : ¬ (n : Int) < 0 := by omega
    have hil : ¬ (L.length : Int) ≤ n := by omega
    by_cases hs : v < 0
    · rw [if_pos hs] at he
      rw [he] at hll
      rw [he, hll, if_neg (by omega)]
      clear h he hll hi2
      go_enter Try.func13, Try.ntmps13
      go_wp2
      go_ret
      exact ⟨rfl, H.out, Only.refl _ _⟩
    · rw [if_neg hs] at he
      rw [he] at hll
      rw [he, hll, if_pos rfl]
      generalize L.set n ((L.getD n (0, 0)).1, v) = M at *
      generalize (L.getD n (0, 0)).2 = x at *
      clear h he hll hi2
      go_enter Try.func13, Try.ntmps13
      go_wp2
      go_ret
      exact ⟨rfl, HX.out, Only.setCell _ _ _⟩
  · have he : wornE L i v = 3 := by rw [wornE, if_neg hi]
    have hll : wornL L i v = L := by rw [wornL, he]; rfl
    rw [he, hll]
    clear h he hll
    by_cases hi0 : i < 0
    · clear hi
      go_enter Try.func13, Try.ntmps13
      go_wp2
      go_ret
      exact ⟨rfl, H.out, Only.refl _ _⟩
    · have hi1 : (L.length : Int) ≤ i := by omega
      clear hi
      go_enter Try.func13, Try.ntmps13
      go_wp2
      go_ret
      exact ⟨rfl, H.out, Only.refl _ _⟩
set_option maxRecDepth 100000 in
set_option maxHeartbeats 1000000 in
theorem rcount_any (r s t : Nat) (L : List (Int × Int)) (hl : L.length ≤ 1000000) (v : Int) (w : World) (h : RPAt w r s t L) :
    Calls Try.prog 20 #[.pointer (some ⟨r, 0, none⟩), .int .i64 v] w fun e w' => e = .returned (.int .i64 (cntK L v L.length : Int)) ∧ w = w' := by
  have H := hide h
  obtain ⟨c0, c1⟩ := h.cells
  clear h
  generalize hn : L.length = n at *
  have HN := hide hn
  clear hn
  go_enter Try.func20, Try.ntmps20
  go_wp2_with fail
  go_loop [5, 6] (fun c i => ∃ k : Nat, k ≤ n ∧ i = .int .i64 k ∧ c = .int .i64 (cntK L v k : Int)) (fun _ i => n - (intOf i).toNat)
  case atStart => exact ⟨0, by omega, rfl, rfl⟩
  case round =>
    obtain ⟨k, hk, rfl, rfl⟩ := hrel
    have hck := cntK_le L v k
    by_cases hlt : k < n
    · obtain ⟨a0, a1, -⟩ := H.out.at k (by rw [HN.out]; exact hlt)
      have hnx := hide (show cntK L v (k + 1) = if ((L.getD k (0, 0)).1 == v) = true then cntK L v k + 1 else cntK L v k from rfl)
      generalize (L.getD k (0, 0)).1 = x at *
      generalize (L.getD k (0, 0)).2 = y at *
      generalize cntK L v k = c at *
      by_cases hx : (x == v) = true
      · go_wp2_with fail
        go_round
        case rel => exact ⟨k + 1, by omega, by go_num, by rw [hnx.out, if_pos hx]; go_num⟩
        case measure => simp [intOf]; omega
      · have hx' : (x == v) = false := by simpa using hx
        go_wp2_with fail
        go_round
        case rel => exact ⟨k + 1, by omega, by go_num, by rw [hnx.out, if_neg hx]⟩
        case measure => simp [intOf]; omega
    · obtain rfl : k = n := by omega
      go_wp2_with fail
      go_ret
      exact ⟨rfl, rfl⟩

set_option maxRecDepth 100000 in
set_option maxHeartbeats 4000000 in
theorem rtake_any (most : Bool) (r s t : Nat) (L : List (Int × Int)) (hl : L.length ≤ 1000000) (w : World) (h : RPAt w r s t L) :
    Calls Try.prog 15 #[.pointer (some ⟨r, 0, none⟩), .bool most] w fun e w' => e = .returned (.tuple #[.int .i64 (takeZ most L).1, .int .i64 (takeZ most L).2]) ∧ RPAt w' r s t (takeL most L) ∧ Only s w w' := by
  have H := hide h
  obtain ⟨c0, c1⟩ := h.cells
  have HZ := hide (show takeZ most L = if bestK most L L.length < 0 then (0, 13) else (bestK most L L.length, 0) from rfl)
  have HL := hide (show takeL most L = if bestK most L L.length < 0 then L else L.set (bestK most L L.length).toNat (2, (L.getD (bestK most L L.length).toNat (0, 0)).2) from rfl)
  generalize takeZ most L = Z at *
  generalize takeL most L = M at *
  generalize hn : L.length = n at *
  have HN := hide hn
  clear h hn
  have hmost : most = true ∨ most = false := by cases most <;> simp
  go_enter Try.func15, Try.ntmps15
  go_wp2_with fail
  go_loopw [6, 7] (fun b i W => ∃ k : Nat, k ≤ n ∧ i = .int .i64 k ∧ b = .int .i64 (bestK most L k) ∧ Only s w W ∧ RPAt W r s t L) (fun _ i _ => n - (intOf i).toNat)
  case atStart => exact ⟨0, by omega, rfl, rfl, Only.refl _ _, H.out⟩
  case round =>
    obtain ⟨k, hk, rfl, rfl, hO, hP⟩ := hrel
    have HO := hide hO
    have HP := hide hP
    have hbd := bestK_bd most L k
    obtain ⟨c0, c1⟩ := hP.cells
    rw [HN.out] at c0 c1
    by_cases hlt : k < n
    · obtain ⟨a0, a1, -⟩ := hP.at k (by rw [HN.out]; exact hlt)
      obtain ⟨hy, hno⟩ := bestK_next most L k
      have HY := hide hy
      have HNO := hide hno
      clear hy hno hO hP
      by_cases hx : (L.getD k (0, 0)).1 = 1
      · have hx1 : ((L.getD k (0, 0)).1 != 1) = false := by rw [hx]; rfl
        have HX := hide hx
        clear hx
        by_cases hb : bestK most L k < 0
        · have hbs : bestK most L (k + 1) = k := HY.out HX.out (.inl hb)
          have HBS := hide hbs
          have hb1 : decide (bestK most L k < 0) = true := decide_eq_true hb
          clear hbs
          generalize (L.getD k (0, 0)).1 = x at *
          generalize (L.getD k (0, 0)).2 = y at *
          generalize bestK most L k = b at *
          clear HY HNO
          go_wp2_with fail
          go_quiet (fail)
          go_wp2_with fail
          go_roundw
          case rel => exact ⟨k + 1, by omega, by go_num, by rw [HBS.out], HO.out.drews _, HP.out.drews _⟩
          case measure => simp [intOf]; omega
        · obtain ⟨j, hj⟩ := Int.eq_ofNat_of_zero_le (show 0 ≤ bestK most L k by omega)
          have hjn : j < n := by omega
          obtain ⟨d0, d1, -⟩ := HP.out.at j (by rw [HN.out]; exact hjn)
          rw [hj, Int.toNat_natCast] at HY HNO
          rw [hj]
          have hbs : (aheadB most (L.getD k (0, 0)).2 (L.getD j (0, 0)).2 = true ∧ bestK most L (k + 1) = k) ∨ (aheadB most (L.getD k (0, 0)).2 (L.getD j (0, 0)).2 = false ∧ bestK most L (k + 1) = (j : Int)) := by
            cases ha : aheadB most (L.getD k (0, 0)).2 (L.getD j (0, 0)).2
            · exact .inr ⟨rfl, HNO.out fun _ => ⟨by omega, by rw [ha]; simp⟩⟩
            · exact .inl ⟨rfl, HY.out HX.out (.inr ha)⟩
          have hb1 : decide ((j : Int) < 0) = false := decide_eq_false (by omega)
          have hj0 : (0 : Int) ≤ j := by omega
          clear hb hj HY HNO hbd
          generalize (L.getD k (0, 0)).1 = x at *
          generalize (L.getD k (0, 0)).2 = y at *
          generalize (L.getD j (0, 0)).2 = z at *
          rcases hmost with rfl | rfl
          · unfold aheadB at hbs
            simp only [if_true, Bool.false_eq_true, if_false, decide_eq_true_eq, decide_eq_false_iff_not] at hbs
            rcases hbs with ⟨hc, hbs⟩ | ⟨hc, hbs⟩
            · have HBS := hide hbs
              have hc1 : decide (z < y) = true := decide_eq_true hc
              clear hbs
              go_wp2_with fail
              go_quiet (fail)
              go_wp2_with fail
              go_roundw
              case rel => exact ⟨k + 1, by omega, by go_num, by rw [HBS.out], HO.out.drews _, HP.out.drews _⟩
              case measure => simp [intOf]; omega
            · have HBS := hide hbs
              have hc1 : decide (z < y) = false := decide_eq_false hc
              clear hbs
              go_wp2_with fail
              go_quiet (fail)
              go_wp2_with fail
              go_roundw
              case rel => exact ⟨k + 1, by omega, by go_num, by rw [HBS.out], HO.out.drews _, HP.out.drews _⟩
              case measure => simp [intOf]; omega
          · unfold aheadB at hbs
            simp only [if_true, Bool.false_eq_true, if_false, decide_eq_true_eq, decide_eq_false_iff_not] at hbs
            rcases hbs with ⟨hc, hbs⟩ | ⟨hc, hbs⟩
            · have HBS := hide hbs
              have hc1 : decide (y < z) = true := decide_eq_true hc
              clear hbs
              go_wp2_with fail
              go_quiet (fail)
              go_wp2_with fail
              go_roundw
              case rel => exact ⟨k + 1, by omega, by go_num, by rw [HBS.out], HO.out.drews _, HP.out.drews _⟩
              case measure => simp [intOf]; omega
            · have HBS := hide hbs
              have hc1 : decide (y < z) = false := decide_eq_false hc
              clear hbs
              go_wp2_with fail
              go_quiet (fail)
              go_wp2_with fail
              go_roundw
              case rel => exact ⟨k + 1, by omega, by go_num, by rw [HBS.out], HO.out.drews _, HP.out.drews _⟩
              case measure => simp [intOf]; omega
      · have hx1 : ((L.getD k (0, 0)).1 != 1) = true := bne_iff_ne.2 hx
        have hbs : bestK most L (k + 1) = bestK most L k := HNO.out fun h => absurd h hx
        have HBS := hide hbs
        clear hbs hx
        generalize (L.getD k (0, 0)).1 = x at *
        generalize bestK most L k = b at *
        clear HY HNO
        go_wp2_with fail
        go_roundw
        case rel => exact ⟨k + 1, by omega, by go_num, by rw [HBS.out], HO.out, HP.out⟩
        case measure => simp [intOf]; omega
    · obtain rfl : k = n := by omega
      clear hO hP
      by_cases hb : bestK most L k < 0
      · have hz := HZ.out
        have hm := HL.out
        rw [if_pos hb] at hz hm
        have HZ2 := hide hz
        have HM2 := hide hm
        clear hz hm HZ HL
        generalize bestK most L k = b at *
        go_wp2_with fail
        go_ret2
        exact ⟨by rw [HZ2.out]; rfl, by rw [HM2.out]; exact HP.out, HO.out⟩
      · obtain ⟨j, hj⟩ := Int.eq_ofNat_of_zero_le (show 0 ≤ bestK most L k by omega)
        have hjn : j < k := by omega
        obtain ⟨d0, d1, f0, f1⟩ := HP.out.at j (by rw [HN.out]; exact hjn)
        have hz := HZ.out
        have hm := HL.out
        rw [if_neg hb, hj] at hz hm
        rw [Int.toNat_natCast] at hm
        have HS := hide (HP.out.setFst j (by rw [HN.out]; exact hjn) 2)
        rw [hj]
        have HZ2 := hide hz
        have HM2 := hide hm
        have hj0 : ¬ (j : Int) < 0 := by omega
        clear hz hm HZ HL hb hj hbd
        generalize L.set j (2, (L.getD j (0, 0)).2) = M' at *
        generalize (L.getD j (0, 0)).1 = x at *
        go_wp2_with fail
        go_ret2
        exact ⟨by rw [HZ2.out]; rfl, by rw [HM2.out]; exact HS.out, HO.out.trans (Only.setCell _ _ _)⟩

def WOk (L : List (Int × Int)) : Prop := ∀ i, i < L.length → 0 ≤ (L.getD i (0, 0)).2
theorem spK_hi (L : List (Int × Int)) (hW : WOk L) : ∀ k, k ≤ L.length → 0 ≤ (spK L k).2 ∧ ((spK L k).1 < 0 → (spK L k).2 = 0)
  | 0, _ => ⟨by simp [spK], by simp [spK]⟩
  | k + 1, h => by
    have := spK_hi L hW k (by omega)
    have hw := hW k (by omega)
    unfold spK
    split
    · exact this
    · simp only
      split <;> split <;> omega
/-- the document's way: whether none was seen yet, the least, the greatest -/
def fsK (L : List (Int × Int)) : Nat → Bool
  | 0 => true
  | k + 1 => if (L.getD k (0, 0)).1 = 3 then fsK L k else false
theorem fsK_iff (L : List (Int × Int)) (hW : WOk L) : ∀ k, k ≤ L.length → (fsK L k = true ↔ (spK L k).1 < 0)
  | 0, _ => by simp [fsK, spK]
  | k + 1, h => by
    have := fsK_iff L hW k (by omega)
    have hw := hW k (by omega)
    unfold fsK spK
    split
    · exact this
    · simp only [Bool.false_eq_true, false_iff]
      split <;> omega
def loZ (L : List (Int × Int)) (k : Nat) : Int := if fsK L k = true then 0 else (spK L k).1
theorem sp_next (L : List (Int × Int)) (hW : WOk L) (k : Nat) (hk : k < L.length) :
    ((L.getD k (0, 0)).1 = 3 → fsK L (k + 1) = fsK L k ∧ loZ L (k + 1) = loZ L k ∧ (spK L (k + 1)).2 = (spK L k).2) ∧
    (¬ (L.getD k (0, 0)).1 = 3 → fsK L (k + 1) = false ∧ loZ L (k + 1) = (if fsK L k = true ∨ (L.getD k (0, 0)).2 < loZ L k then (L.getD k (0, 0)).2 else loZ L k) ∧
      (spK L (k + 1)).2 = if fsK L k = true ∨ (spK L k).2 < (L.getD k (0, 0)).2 then (L.getD k (0, 0)).2 else (spK L k).2) := by
  have hw := hW k hk
  have hh := spK_hi L hW k (by omega)
  have hf := fsK_iff L hW k (by omega)
  have e : spK L (k + 1) = if (L.getD k (0, 0)).1 = 3 then spK L k else
      (if (spK L k).1 < 0 ∨ (L.getD k (0, 0)).2 < (spK L k).1 then (L.getD k (0, 0)).2 else (spK L k).1, if (spK L k).2 < (L.getD k (0, 0)).2 then (L.getD k (0, 0)).2 else (spK L k).2) := rfl
  have ef : fsK L (k + 1) = if (L.getD k (0, 0)).1 = 3 then fsK L k else false := rfl
  constructor
  · intro h
    rw [if_pos h] at e ef
    unfold loZ
    rw [e, ef]
    exact ⟨rfl, rfl, rfl⟩
  · intro h
    rw [if_neg h] at e ef
    unfold loZ
    rw [e, ef]
    refine ⟨rfl, ?_, ?_⟩
    · simp only [Bool.false_eq_true, if_false]
      cases hb : fsK L k
      · have : ¬ (spK L k).1 < 0 := fun h' => by rw [hf.2 h'] at hb; cases hb
        simp only [Bool.false_eq_true, if_false, false_or]
        by_cases h2 : (L.getD k (0, 0)).2 < (spK L k).1
        · rw [if_pos (.inr h2), if_pos h2]
        · rw [if_neg (by omega), if_neg h2]
      · have : (spK L k).1 < 0 := hf.1 hb
        rw [if_pos (.inl this), if_pos (.inl rfl)]
    · simp only
      cases hb : fsK L k
      · simp only [Bool.false_eq_true, false_or]
      · have h1 : (spK L k).2 = 0 := hh.2 (hf.1 hb)
        rw [h1, if_pos (show (true = true ∨ 0 < (L.getD k (0, 0)).2) from .inl rfl)]
        split <;> omega
set_option maxRecDepth 100000 in
set_option maxHeartbeats 4000000 in
theorem rspread_any (r s t : Nat) (L : List (Int × Int)) (hW : WOk L) (hl : L.length ≤ 1000000) (w : World) (h : RPAt w r s t L) :
    Calls Try.prog 22 #[.pointer (some ⟨r, 0, none⟩)] w fun e w' => e = .returned (.tuple #[.int .i64 (spreadZ L).1, .int .i64 (spreadZ L).2]) ∧ w = w' := by
  have H := hide h
  obtain ⟨c0, c1⟩ := h.cells
  have HZ := hide (show spreadZ L = (loZ L L.length, (spK L L.length).2) by
    unfold spreadZ loZ
    have hf := fsK_iff L hW L.length (Nat.le_refl _)
    cases hb : fsK L L.length
    · have : ¬ (spK L L.length).1 < 0 := fun h' => by rw [hf.2 h'] at hb; cases hb
      rw [if_neg this, if_neg (by simp)]
    · rw [if_pos (hf.1 hb), if_pos rfl])
  have HNX := hide (fun k hk => sp_next L hW k hk)
  generalize spreadZ L = Z at *
  generalize hn : L.length = n at *
  have HN := hide hn
  clear h hn
  go_enter Try.func22, Try.ntmps22
  go_wp2_with fail
  go_loop [4, 5, 6, 7] (fun a b f i => ∃ k : Nat, k ≤ n ∧ i = .int .i64 k ∧ a = .int .i64 (loZ L k) ∧ b = .int .i64 (spK L k).2 ∧ f = .bool (fsK L k)) (fun _ _ _ i => n - (intOf i).toNat)
  case atStart => exact ⟨0, by omega, rfl, rfl, rfl, rfl⟩
  case round =>
    obtain ⟨k, hk, rfl, rfl, rfl, rfl⟩ := hrel
    by_cases hlt : k < n
    · obtain ⟨a0, a1, -⟩ := H.out.at k (by rw [HN.out]; exact hlt)
      obtain ⟨n1, n2⟩ := HNX.out k hlt
      have N1 := hide n1
      have N2 := hide n2
      clear n1 n2
      generalize (L.getD k (0, 0)).1 = x at *
      generalize (L.getD k (0, 0)).2 = y at *
      generalize loZ L k = lo at *
      generalize (spK L k).2 = hi at *
      generalize fsK L k = f at *
      by_cases hx : x = 3
      · obtain ⟨e1, e2, e3⟩ := N1.out hx
        have E1 := hide e1
        have E2 := hide e2
        have E3 := hide e3
        have hx1 : (x == 3) = true := by rw [hx]; rfl
        clear hx e1 e2 e3 N1 N2
        go_wp2_with fail
        go_round
        case rel => exact ⟨k + 1, by omega, by go_num, by rw [E2.out], by rw [E3.out], by rw [E1.out]⟩
        case measure => simp [intOf]; omega
      · obtain ⟨e1, e2, e3⟩ := N2.out hx
        have E1 := hide e1
        have E2 := hide e2
        have E3 := hide e3
        have hx1 : (x == 3) = false := beq_eq_false_iff_ne.2 hx
        clear hx e1 e2 e3 N1 N2
        cases f
        · by_cases h1 : y < lo
          all_goals by_cases h2 : hi < y
          all_goals
            go_wp2_with fail
            go_round
            case rel => exact ⟨k + 1, by omega, by go_num, by rw [E2.out]; simp [h1], by rw [E3.out]; simp [h2], by rw [E1.out]⟩
            case measure => simp [intOf]; omega
        · go_wp2_with fail
          go_round
          case rel => exact ⟨k + 1, by omega, by go_num, by rw [E2.out]; simp, by rw [E3.out]; simp, by rw [E1.out]⟩
          case measure => simp [intOf]; omega
    · obtain rfl : k = n := by omega
      go_wp2_with fail
      go_ret2
      exact ⟨by rw [HZ.out]; rfl, rfl⟩
end Go.Proofs.Ytbkbigpijdljpaa
