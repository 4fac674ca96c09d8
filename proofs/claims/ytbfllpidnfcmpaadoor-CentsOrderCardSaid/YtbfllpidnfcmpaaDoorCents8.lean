/-
  Layer 3: amounts of numbers, by contract; the sum of a row of the call's own.
-/
import Derived.Test.YtbfllpidnfcmpaaDoorCents5
import Derived.Test.YtbfllpidnfcmpaaDoorKitF
namespace Go.Proofs.YtbfllpidnfcmpaaDoor
set_option linter.unusedSimpArgs false
set_option linter.unusedVariables false
open Go.RowKit Go.WideShapes Go.ChangeShapes Go.ChangeAt

theorem new_one (w : World) (v : Value) (t : Nat) : ∀ (j : Nat) (u : Value), [v][j]? = some u → (w.alloc (.cells #[v] t)).cell? ((⟨w.heap.size, 0, none⟩ : Addr).add j) = some u := by
  intro j u h
  have e : (⟨w.heap.size, 0, none⟩ : Addr).add j = ⟨w.heap.size, j, none⟩ := by
    rw [Go.WideShapes.add_plain, Nat.zero_add]
  rw [e, World.cell?_alloc_new]
  simpa using h
theorem one_int (x : Int) : ∀ u ∈ [Value.int .i64 x], u.oneCell' = true := by
  intro u hu
  simp at hu
  subst hu
  rfl
theorem take_next (xs : List Int) (k : Nat) (h : k < xs.length) : xs.take (k + 1) = xs.take k ++ [xs.getD k 0] := by
  rw [List.take_add_one, List.getElem?_eq_getElem h]
  simp [List.getD, h]
def CentsAt (xs : List Int) (w : World) (e : Ending) (w' : World) : Prop := ∃ (a : Option Addr) (c : Nat), e = .returned (.slice a xs.length c) ∧ w'.ownsRow w.heap.size 22 1 (.slice a xs.length c) xs.length (xs.map (Value.int .i64)) ∧ Below w.heap.size w w'

set_option maxRecDepth 100000 in
set_option maxHeartbeats 400000 in
theorem list_any (xs : List Int) (hn : xs.length ≤ 1000) (b o cap : Nat) (w : World) (hb : b < w.heap.size) (hc : ∀ k, k < xs.length → w.cell? ⟨b, o + k, none⟩ = some (.int .i64 (xs.getD k 0))) :
    Calls Tryd.prog 16 #[.slice (some ⟨b, o, none⟩) xs.length cap] w (CentsAt xs w) := by
  obtain ⟨i0, hi, hz0, hz1, hz2⟩ := info_parts (show (Tryd.prog.info? 22).map (fun i => (i.zero, i.size, i.bytes)) = some (some (.int .i64 0), 1, 8) by kernel_rfl)
  have HI := hide hi
  have HZ0 := hide hz0
  have HZ1 := hide hz1
  have HZ2 := hide hz2
  have HC := hide hc
  have HBS := hide hb
  clear hi hz0 hz1 hz2 hc hb
  go_enter Tryd.func16, Tryd.ntmps16
  go_wp2_with fail
  go_loopw [3, 8] (fun s i W => ∃ (k : Nat) (a : Option Addr) (c : Nat), k ≤ xs.length ∧ i = .int .i64 k ∧ s = .slice a (xs.take k).length c ∧ W.ownsRow w.heap.size 22 1 (.slice a (xs.take k).length c) (xs.take k).length ((xs.take k).map (Value.int .i64)) ∧ Below w.heap.size w W) (fun s i _ => xs.length - (intOf i).toNat)
  case atStart => exact ⟨0, none, 0, by omega, rfl, rfl, World.ownsRow_nil _ _ _ _, Below.refl _ _⟩
  case round =>
    obtain ⟨k, a, c, hk, rfl, rfl, hown, hB⟩ := hrel
    have HB := hide hB
    have HOWN := hide hown
    clear hown hB
    by_cases hlt : k < xs.length
    · have hci := (HB.out.cell (p := ⟨b, o + k, none⟩) HBS.out).trans (HC.out k hlt)
      have HTN := hide (take_next xs k hlt)
      have hLl : (xs.take k).length ≤ 1000 := by simp; omega
      have HLK := hide (show (xs.take k).length = k by simp; omega)
      generalize xs.take k = L at *
      generalize xs.getD k 0 = x at *
      have HA := hide (HOWN.out.alloc (.cells #[.int .i64 x] 22))
      have HBA := hide (HB.out.alloc HB.out.size (.cells #[.int .i64 x] 22))
      have hw5 : w.heap.size ≤ (wr.alloc (.cells #[.int .i64 x] 22)).heap.size := HBA.out.size
      have HW5 := hide hw5
      have HNEW := hide (new_one wr (.int .i64 x) 22)
      have HGE := hide (fun j (h : (Value.slice a L.length c).ownBlock = some j) => (HA.out.lt j h).1)
      clear hw5 HOWN HB
      go_wp2_with (at_builtin; refine wpList_append_own _ rfl _ _ 33 rfl w.heap.size 22 i0 (.int .i64 0) 1 8 Tryd.underlying33 HI.out HZ0.out HZ1.out HZ2.out rfl (by decide) (.slice a L.length c) L.length (L.map (Value.int .i64)) rfl HA.out ⟨wr.heap.size, 0, none⟩ 1 1 [.int .i64 x] rfl rfl HNEW.out (one_int _) (by unfold maxLen; omega) (by omega) HW5.out ?_; intro v' w' ho hgr hnil; obtain ⟨a3, c3', rfl⟩ := owns_slice_n ho; have HO6 := hide ho; have HB6 := hide (HBA.out.grown hgr HBA.out.size HGE.out); clear ho hgr hnil)
      go_roundw
      case rel => exact ⟨k + 1, a3, c3', by omega, by go_num, by rw [HTN.out]; simp, by rw [HTN.out]; simpa using HO6.out, HB6.out⟩
      case measure => simp [intOf]; omega
    · obtain rfl : k = xs.length := by omega
      rw [List.take_length] at HOWN
      simp only [List.take_length]
      go_wp2_with fail
      go_ret
      exact ⟨a, c, rfl, HOWN.out, HB.out⟩

/-- a list of nothing: nothing -/
theorem list_zero (a : Option Addr) (cap : Nat) (w : World) :
    Calls Tryd.prog 16 #[.slice a 0 cap] w fun e w' => e = .returned (.slice none 0 0) ∧ w = w' := by
  go_enter Tryd.func16, Tryd.ntmps16
  go_wp2_with fail
  go_loop [3, 8] (fun s i => s = .slice none 0 0 ∧ i = .int .i64 0) (fun _ _ => 0)
  case atStart => exact ⟨rfl, rfl⟩
  case round =>
    obtain ⟨rfl, rfl⟩ := hrel
    go_wp2_with fail
    go_ret
    exact ⟨rfl, rfl⟩

theorem sum_nil0 : sumV ([] : List Int).sum = 0 ∧ sumE ([] : List Int).sum = 0 := sum_in (show inR 0 by unfold inR; omega)
/-- the sum of what a row of the call's own holds -/
theorem total_owns (xs : List Int) (hx : ∀ x ∈ xs, inR x) (hn : xs.length ≤ 1000) (a : Option Addr) (c B : Nat) (w : World) (h : w.ownsRow B 22 1 (.slice a xs.length c) xs.length (xs.map (Value.int .i64))) :
    Calls Tryd.prog 15 #[.slice a xs.length c] w fun e w' => e = .returned (.tuple #[.int .i64 (sumV xs.sum), .int .i64 (sumE xs.sum)]) ∧ w = w' := by
  rcases h.2 with ⟨h1, h2⟩ | ⟨g, cap, cur, h1, h2, h3, h4, h5, h6, h7⟩
  · obtain rfl : xs = [] := List.eq_nil_of_length_eq_zero h2
    rw [sum_nil0.1, sum_nil0.2]
    simp only [Value.slice.injEq] at h1
    rw [h1.1, h1.2.2]
    exact total_nil 0 w
  · simp only [Value.slice.injEq] at h1
    rw [h1.1]
    refine total_any xs hx (by omega) g 0 c w fun k hk => ?_
    rw [cell_of_block h3, Nat.zero_add, ← Array.getElem?_toList]
    have e := congrArg (fun l : List Value => l[k]?) h7
    simp only [Nat.mul_one] at e
    rw [List.getElem?_take_of_lt hk] at e
    rw [e, List.getElem?_map, List.getElem?_eq_getElem hk]
    simp [List.getD, hk]
end Go.Proofs.YtbfllpidnfcmpaaDoor
