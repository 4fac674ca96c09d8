/-
  Layer 9, the program's calls: List by contract.
-/
import Derived.Test.YtfphkldpjfackaaBbt2
namespace Go.Proofs.Ytfphkldpjfackaa
set_option linter.unusedSimpArgs false
set_option linter.unusedVariables false
open Go.RowKit Go.WideShapes Go.ChangeShapes Go.ChangeAt

theorem new_one (w : World) (v : Value) (t : Nat) : ∀ (j : Nat) (u : Value), [v][j]? = some u → (w.alloc (.cells #[v] t)).cell? ((⟨w.heap.size, 0, none⟩ : Addr).add j) = some u := by
  intro j u h
  have e : (⟨w.heap.size, 0, none⟩ : Addr).add j = ⟨w.heap.size, j, none⟩ := by
    rw [Go.WideShapes.add_plain, Nat.zero_add]
  rw [e, World.cell?_alloc_new]
  simpa using h
theorem one_int (x : Int) : ∀ u ∈ [Value.int .i64 x], u.oneCell' = true := by
  intro u hu
  simp at hu
  subst hu
  rfl
theorem grown_keeps {a b : World} {v : Value} {B : Nat} {o : Obj} (h : a.grownBy b v.ownBlock) (hg : ∀ j, v.ownBlock = some j → B + 1 ≤ j) (ho : a.heap[B]? = some o) (hl : B < a.heap.size) : b.heap[B]? = some o :=
  (h.block B hl (by intro e; have := hg B (by first | exact e | exact e.symm); omega)).trans ho
theorem owns_mono {w : World} {B B' e n m : Nat} {v : Value} {xs : List Value} (h : w.ownsRow B e m v n xs) (hb : B' ≤ B) : w.ownsRow B' e m v n xs := by
  refine ⟨h.1, ?_⟩
  rcases h.2 with h3 | ⟨g, cap', cur, hv, hg, h4⟩
  · exact .inl h3
  · exact .inr ⟨g, cap', cur, hv, Nat.le_trans hb hg, h4⟩
def OfIs (L : List Int) (w : World) (e : Ending) (w' : World) : Prop := ∃ (a : Option Addr) (cap : Nat), e = .returned (.slice a L.length cap) ∧ w'.ownsRow w.heap.size 3 1 (.slice a L.length cap) L.length (L.map (Value.int .i64)) ∧ Below w.heap.size w w'
set_option maxRecDepth 100000 in
set_option maxHeartbeats 400000 in
theorem list_any (v : Int) (n : Nat) (hn : n ≤ 256) (S : List UInt8) (hS : S.length = 32) (w : World) :
    Calls Try.prog 15 #[.agg (bbtC v (n : Int) S)] w (OfIs (badL S n) w) := by
  obtain ⟨i0, hi, hz0, hz1, hz2⟩ := info_parts (show (Try.prog.info? 3).map (fun i => (i.zero, i.size, i.bytes)) = some (some (.int .i64 0), 1, 8) by kernel_rfl)
  have HI := hide hi
  have HZ0 := hide hz0
  have HZ1 := hide hz1
  have HZ2 := hide hz2
  have HH := hide (fun (k : Nat) W => has_any v (n : Int) S hS (by omega) (k : Int) W)
  have HIC := hide (bbt_info v (n : Int) S hS)
  have HC1' := hide (bbtC_1 v (n : Int) S)
  have hCs := bbtC_size v (n : Int) S hS
  generalize bbtC v (n : Int) S = C at *
  have h1 := el HC1'.out (by omega)
  have HC := hide (heap_new w (.cells C 26))
  have HB0 := hide ((Below.refl w.heap.size w).alloc (Nat.le_refl _) (.cells C 26))
  clear hi hz0 hz1 hz2
  go_enter Try.func15, Try.ntmps15
  go_wp2_with fail
  go_loopw [3, 7] (fun s i W => ∃ (k : Nat) (a : Option Addr) (cap : Nat), k ≤ n ∧ i = .int .i64 k ∧ s = .slice a (badL S k).length cap ∧ W.ownsRow (w.heap.size + 1) 3 1 (.slice a (badL S k).length cap) (badL S k).length ((badL S k).map (Value.int .i64)) ∧ Below w.heap.size w W ∧ W.heap[w.heap.size]? = some (.cells C 26 (0, 0))) (fun s i _ => n - (intOf i).toNat)
  case atStart => exact ⟨0, none, 0, by omega, rfl, rfl, World.ownsRow_nil _ _ _ _, HB0.out, HC.out⟩
  case round =>
    clear HB0 HC
    obtain ⟨k, a, cap, hk, rfl, rfl, hown, hB, hC⟩ := hrel
    have HB := hide hB
    have HOWN := hide hown
    have HC := hide hC
    clear hown hB hC
    by_cases hlt : k < n
    · have HNX := hide (badL_next S k)
      have HLE := hide (badL_le S k)
      have HHK := hide (HH.out k)
      have HZK := hide (show hasZ (n : Int) S (k : Int) = hasB S k by unfold hasZ; rw [decide_eq_true (by omega), Bool.true_and, Int.toNat_natCast])
      rw [HZK.out] at HHK
      have hcl := heap_lt HC.out
      generalize badL S k = L at *
      cases hb : hasB S k
      · have HN2 := hide (show badL S (k + 1) = L by have := HNX.out; rw [hb] at this; simpa using this)
        rw [hb] at HHK
        clear hb HNX HZK
        go_wp2_with (first | (refine wpList_load_row rfl 26 (.tmp 1) rfl w.heap.size rfl 26 C (0, 0) _ HC.out Try.underlying26 rfl HIC.out ?_))
        refine (HHK.out _).mono ?_
        rintro e w5 ⟨rfl, hb5⟩
        have HO5 := hide (owns_below HOWN.out hb5)
        have HB5 := hide (below_trans HB.out hb5)
        have HC5 := hide ((hb5.block _ hcl).trans HC.out)
        clear hb5 HOWN HB HHK HC
        go_wp2_with fail
        go_roundw
        case rel => exact ⟨k + 1, a, cap, by omega, by go_num, by rw [HN2.out], by rw [HN2.out]; exact HO5.out, HB5.out, HC5.out⟩
        case measure => simp [intOf]; omega
      · have HN2 := hide (show badL S (k + 1) = L ++ [(k : Int)] by have := HNX.out; rw [hb] at this; simpa using this)
        rw [hb] at HHK
        have hll : L.length ≤ 256 := by have := HLE.out; omega
        clear hb HNX HZK
        go_wp2_with (first | (refine wpList_load_row rfl 26 (.tmp 1) rfl w.heap.size rfl 26 C (0, 0) _ HC.out Try.underlying26 rfl HIC.out ?_))
        refine (HHK.out _).mono ?_
        rintro e w5 ⟨rfl, hb5⟩
        have HO5 := hide (owns_below HOWN.out hb5)
        have HB5 := hide (below_trans HB.out hb5)
        have HC5 := hide ((hb5.block _ hcl).trans HC.out)
        clear hb5 HOWN HB HHK HC
        have HA := hide (HO5.out.alloc (.cells #[.int .i64 (k : Int)] 3))
        have HBA := hide (HB5.out.alloc HB5.out.size (.cells #[.int .i64 (k : Int)] 3))
        have HCA := hide ((heap_old w5 (.cells #[.int .i64 (k : Int)] 3) _ (heap_lt HC5.out)).trans HC5.out)
        have hw5 : w.heap.size + 1 ≤ (w5.alloc (.cells #[.int .i64 (k : Int)] 3)).heap.size := by have := heap_lt HCA.out; omega
        have HNEW := hide (show ∀ j u, [Value.int .i64 (k : Int)][j]? = some u → (w5.alloc (.cells #[.int .i64 (k : Int)] 3)).cell? ((⟨w5.heap.size, 0, none⟩ : Addr).add j) = some u from new_one w5 (.int .i64 (k : Int)) 3)
        have HGE := hide (fun j (h : (Value.slice a L.length cap).ownBlock = some j) => (HA.out.lt j h).1)
        have HGE0 := hide (fun j (h : (Value.slice a L.length cap).ownBlock = some j) => Nat.le_of_succ_le (HGE.out j h))
        go_wp2_with (at_builtin; refine wpList_append_own _ rfl _ _ 22 rfl (w.heap.size + 1) 3 i0 (.int .i64 0) 1 8 Try.underlying22 HI.out HZ0.out HZ1.out HZ2.out rfl (by decide) (.slice a L.length cap) L.length (L.map (Value.int .i64)) rfl HA.out ⟨w5.heap.size, 0, none⟩ 1 1 [.int .i64 (k : Int)] rfl rfl HNEW.out (one_int _) (by unfold maxLen; omega) (by omega) hw5 ?_; intro v' w' ho hgr hnil; obtain ⟨a3, c3', rfl⟩ := owns_slice_n ho; have HO6 := hide ho; have HB6 := hide (HBA.out.grown hgr HBA.out.size HGE0.out); have HC6 := hide (grown_keeps hgr HGE.out HCA.out (heap_lt HCA.out)); clear ho hgr hnil)
        go_roundw
        case rel => exact ⟨k + 1, a3, c3', by omega, by go_num, by rw [HN2.out]; simp, by rw [HN2.out]; simpa using HO6.out, HB6.out, HC6.out⟩
        case measure => simp [intOf]; omega
    · obtain rfl : k = n := by omega
      go_wp2_with fail
      go_ret
      exact ⟨a, cap, rfl, owns_mono HOWN.out (by omega), HB.out⟩
end Go.Proofs.Ytfphkldpjfackaa
