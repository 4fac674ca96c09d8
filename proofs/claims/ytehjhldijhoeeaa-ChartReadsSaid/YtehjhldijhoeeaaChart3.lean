/-
  Layer 21: a chart's keys, sorted; List.
-/
import Derived.Test.YtehjhldijhoeeaaChart2
import Derived.Test.YtehjhldijhoeeaaKitW
import Derived.Test.YtehjhldijhoeeaaShelf

namespace Go.Proofs.Ytehjhldijhoeeaa
set_option linter.unusedSimpArgs false
set_option linter.unusedVariables false
open Go.RowKit Go.WideShapes Go.ChangeShapes Go.ChangeAt Go.Deep
open Go.Maps Go.Sort
theorem keys_made (mb : Option Nat) (W : World) : Calls Try.prog 33 #[.map mb] W fun e w' => e = .returned (.func (.func 44) #[] #[.pointer (some ⟨W.heap.size, 0, none⟩)]) ∧ w' = W.alloc (.cells #[.map mb] 67) :=
  (callsIn_wide (n := 5)).1 (AnyZI.keys_in Try.keysA Fence.wide 5 trivial rfl mb W)
theorem sorts_in (m : Nat) : AnyZI.SortsIn Try.prog Try.sortedA_ren Fence.wide m :=
  ⟨fun blk off cap ss W hH hblk hsz => callsIn_wide.2 (AnyM.slices_Sort_int Try.sortA blk off cap ss W hH hblk hsz),
   fun p cap W => callsIn_wide.2 (AnyM.slices_Sort_int_none Try.sortA p cap W)⟩
set_option maxHeartbeats 1000000 in
theorem sorted_made {H : Type} (b nn : Nat) (D0 : DataW H) (R : Value → Option (DataW H × List MemPlace)) (w : World) (hown : w.ownsMap Try.prog 3 R b nn D0) (hmax : Maps.size D0 ≤ maxLen) (hbytes : Maps.size D0 * 8 ≤ 140737488355328) :
    Calls Try.prog 32 #[.func (.func 44) #[] #[.pointer (some ⟨w.heap.size, 0, none⟩)]] (w.alloc (.cells #[.map (some b)] 67)) fun e w' => ∃ (v : Value) (ss : List Int), e = .returned v ∧ ss.Perm (intKeys D0) ∧
      w'.ownsRow (w.alloc (.cells #[.map (some b)] 67)).heap.size 3 1 v ss.length ((ss.mergeSort (fun x y => decide (x ≤ y))).map encZ) ∧ Below (w.alloc (.cells #[.map (some b)] 67)).heap.size (w.alloc (.cells #[.map (some b)] 67)) w' := by
  refine (callsIn_wide (n := 5)).1 ?_
  have hbl := hown.lt
  have hseq : SeqGives Fence.wide 2 Try.prog 44 #[.pointer (some ⟨w.heap.size, 0, none⟩)] encZ (fun ss => ss.Perm (intKeys D0)) (Maps.size D0) (w.alloc (.cells #[.map (some b)] 67)) :=
    AnyZI.keys_gives (ρ := Try.keysA_ren) { Try.keysA with } Fence.wide _ trivial rfl (by omega) w.heap.size b nn D0 _ (by simp) (by simp) (by
      obtain ⟨es, clock, hb, Ft, hs, hD⟩ := hown
      exact ⟨es, clock, (Below.heap_alloc _ _ b hbl).trans hb, Ft, hs, hD⟩)
  have cS := AnyZI.sorted_in Try.sortedA Fence.wide 5 trivial trivial trivial trivial rfl (by omega) (sorts_in _) (enters_of Try.func43 (by kernel_rfl) rfl) 44 #[.pointer (some ⟨w.heap.size, 0, none⟩)] trivial (enters_of Try.func44 (by kernel_rfl) rfl) _ _ hmax hbytes _ hseq
  exact cS.mono fun e w' ⟨v, ss, h1, h2, h3, h4, h5⟩ => ⟨v, ss, h1, h2, h3, h5⟩
/-- the keys of a map whose keys are told -/
theorem perm_keys {H : Type} {R : Value → Option (DataW H × List MemPlace)} {w : World} {b n : Nat} {D0 : DataW H} (hown : w.ownsMap Try.prog 3 R b n D0) {L : List Int} (hnd : L.Nodup) (hin : ∀ x ∈ L, in64 x) (hm : ∀ x, in64 x → (x ∈ L ↔ has D0 (.int .i64 x) = true)) : L.Perm (intKeys D0) := by
  obtain ⟨es, hD, hpw, _⟩ := hown.entries Keyed_int
  obtain ⟨es', hD', hko⟩ := hown.keysOf
  obtain rfl : es = es' := by rw [hD] at hD'; simpa using hD'
  have hk : Try.prog.underlying 3 = some (.int .i64) := Try.underlying3
  have hall : ∀ p ∈ es, ∃ x, p.1 = .int .i64 x ∧ in64 x := fun p hp => by
    obtain ⟨v, hv⟩ := hko p hp
    obtain ⟨x, _, hx, hw⟩ := Maps.keyOf_i64 hk hv
    exact ⟨x, hx, wf_i64 hw⟩
  subst hD
  refine perm_intKeys hpw (fun p hp => by obtain ⟨x, hx, _⟩ := hall p hp; exact ⟨x, hx⟩) hnd fun x => ?_
  by_cases hx : in64 x
  · exact hm x hx
  · refine ⟨fun h => absurd (hin x h) hx, fun h => ?_⟩
    rw [has_eq, List.any_eq_true] at h
    obtain ⟨p, hp, hs⟩ := h
    obtain ⟨y, hy, hy2⟩ := hall p hp
    rw [hy] at hs
    have : y = x := by simpa [Lit.sameKey] using hs
    exact absurd (this ▸ hy2) hx
theorem sorted_self {L : List Int} (h : L.Pairwise (fun x y => x < y)) : L.mergeSort (fun x y => decide (x ≤ y)) = L :=
  List.mergeSort_of_pairwise (h.imp fun h => by simpa using Int.le_of_lt h)
/-- a chart's codes -/
def codesA (M : List AcM) : List Int := M.map (·.code)
theorem codes_rise {M : List AcM} (h : RisesA M) : (codesA M).Pairwise (fun x y => x < y) := List.pairwise_map.2 h
theorem getA_some {M : List AcM} {k : Int} : (getA M k).isSome = true ↔ k ∈ codesA M := by
  unfold getA codesA
  rw [List.find?_isSome, List.mem_map]
  simp
/-- slices.Sorted(maps.Keys(..)) of a chart -/
theorem chkeys {w : World} {p bm : Nat} {M : List AcM} (h : ChartIs w p bm M) :
    Calls Try.prog 32 #[.func (.func 44) #[] #[.pointer (some ⟨w.heap.size, 0, none⟩)]] (w.alloc (.cells #[.map (some bm)] 67)) fun e w' => ∃ (a : Option Addr) (cap : Nat), e = .returned (.slice a M.length cap) ∧
      w'.ownsRow w.heap.size 3 1 (.slice a M.length cap) (codesA M).length ((codesA M).flatMap fun x => [encZ x]) ∧ Below w.heap.size w w' := by
  obtain ⟨f, ⟨D, h1, h2, h3, h4⟩, hF⟩ := h.map
  have hn := h.few
  have hp : (codesA M).Perm (intKeys D) := perm_keys h1 ((codes_rise h.rises).imp fun h => by omega) (fun x hx => by
    obtain ⟨y, hy, rfl⟩ := List.mem_map.1 hx
    exact (h.ok y hy).code) (fun x hx => by
    rw [h3 _ (by trivial), hF x hx, Option.isSome_map, getA_some])
  refine (sorted_made bm _ D _ w h1 (by rw [h2]; unfold maxLen; omega) (by rw [h2]; omega)).mono ?_
  rintro e w' ⟨v, ss, rfl, hs, ho, hb⟩
  have hl : ss.length = M.length := by rw [(hs.trans hp.symm).length_eq]; unfold codesA; rw [List.length_map]
  have hm : ss.mergeSort (fun x y => decide (x ≤ y)) = codesA M := (mergeSort_of_perm_i (hs.trans hp.symm)).trans (sorted_self (codes_rise h.rises))
  rw [hm, hl] at ho
  obtain ⟨a, cap, rfl⟩ := owns_split ho
  have hb0 := (Below.refl w.heap.size w).alloc (Nat.le_refl _) (.cells #[.map (some bm)] 67)
  refine ⟨a, cap, rfl, ?_, hb0.trans (hb.mono hb0.size)⟩
  have e1 : (codesA M).length = M.length := by unfold codesA; rw [List.length_map]
  have e2 : ((codesA M).flatMap fun x => [encZ x]) = (codesA M).map encZ := List.map_eq_flatMap.symm
  rw [e1, e2]
  exact ownsRow_base_a ho (by simp)
end Go.Proofs.Ytehjhldijhoeeaa
