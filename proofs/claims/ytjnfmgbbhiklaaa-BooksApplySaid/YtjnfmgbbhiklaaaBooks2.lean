/-
  Layer 23: the books' accounts, sorted; List; Copy.
-/
import Derived.Test.YtjnfmgbbhiklaaaBooks
import Derived.Test.YtjnfmgbbhiklaaaKitW
import Derived.Test.YtjnfmgbbhiklaaaShelf

namespace Go.Proofs.Ytjnfmgbbhiklaaa
set_option linter.unusedSimpArgs false
set_option linter.unusedVariables false
open Go.RowKit Go.WideShapes Go.ChangeShapes Go.ChangeAt Go.Deep
open Go.Maps Go.Sort
theorem keys_made (mb : Option Nat) (W : World) : Calls Try.prog 32 #[.map mb] W fun e w' => e = .returned (.func (.func 45) #[] #[.pointer (some ⟨W.heap.size, 0, none⟩)]) ∧ w' = W.alloc (.cells #[.map mb] 60) :=
  (callsIn_wide (n := 5)).1 (AnyZI.keys_in Try.keysA Fence.wide 5 trivial rfl mb W)
theorem sorts_in (m : Nat) : AnyZI.SortsIn Try.prog Try.sortedA_ren Fence.wide m :=
  ⟨fun blk off cap ss W hH hblk hsz => callsIn_wide.2 (AnyM.slices_Sort_int Try.sortA blk off cap ss W hH hblk hsz),
   fun p cap W => callsIn_wide.2 (AnyM.slices_Sort_int_none Try.sortA p cap W)⟩
set_option maxHeartbeats 1000000 in
theorem sorted_made {H : Type} (b nn : Nat) (D0 : DataW H) (R : Value → Option (DataW H × List MemPlace)) (w : World) (hown : w.ownsMap Try.prog 3 R b nn D0) (hmax : Maps.size D0 ≤ maxLen) (hbytes : Maps.size D0 * 8 ≤ 140737488355328) :
    Calls Try.prog 31 #[.func (.func 45) #[] #[.pointer (some ⟨w.heap.size, 0, none⟩)]] (w.alloc (.cells #[.map (some b)] 60)) fun e w' => ∃ (v : Value) (ss : List Int), e = .returned v ∧ ss.Perm (intKeys D0) ∧
      w'.ownsRow (w.alloc (.cells #[.map (some b)] 60)).heap.size 3 1 v ss.length ((ss.mergeSort (fun x y => decide (x ≤ y))).map encZ) ∧ Below (w.alloc (.cells #[.map (some b)] 60)).heap.size (w.alloc (.cells #[.map (some b)] 60)) w' := by
  refine (callsIn_wide (n := 5)).1 ?_
  have hbl := hown.lt
  have hseq : SeqGives Fence.wide 2 Try.prog 45 #[.pointer (some ⟨w.heap.size, 0, none⟩)] encZ (fun ss => ss.Perm (intKeys D0)) (Maps.size D0) (w.alloc (.cells #[.map (some b)] 60)) :=
    AnyZI.keys_gives (ρ := Try.keysA_ren) { Try.keysA with } Fence.wide _ trivial rfl (by omega) w.heap.size b nn D0 _ (by simp) (by simp) (by
      obtain ⟨es, clock, hb, Ft, hs, hD⟩ := hown
      exact ⟨es, clock, (Below.heap_alloc _ _ b hbl).trans hb, Ft, hs, hD⟩)
  have cS := AnyZI.sorted_in Try.sortedA Fence.wide 5 trivial trivial trivial trivial rfl (by omega) (sorts_in _) (enters_of Try.func44 (by kernel_rfl) rfl) 45 #[.pointer (some ⟨w.heap.size, 0, none⟩)] trivial (enters_of Try.func45 (by kernel_rfl) rfl) _ _ hmax hbytes _ hseq
  exact cS.mono fun e w' ⟨v, ss, h1, h2, h3, h4, h5⟩ => ⟨v, ss, h1, h2, h3, h5⟩
/-- the keys of a map whose keys are told -/
theorem perm_keys {H : Type} {R : Value → Option (DataW H × List MemPlace)} {w : World} {b n : Nat} {D0 : DataW H} (hown : w.ownsMap Try.prog 3 R b n D0) {L : List Int} (hnd : L.Nodup) (hin : ∀ x ∈ L, inR x) (hm : ∀ x, inR x → (x ∈ L ↔ has D0 (.int .i64 x) = true)) : L.Perm (intKeys D0) := by
  obtain ⟨es, hD, hpw, _⟩ := hown.entries Keyed_int
  obtain ⟨es', hD', hko⟩ := hown.keysOf
  obtain rfl : es = es' := by rw [hD] at hD'; simpa using hD'
  have hk : Try.prog.underlying 3 = some (.int .i64) := Try.underlying3
  have hall : ∀ p ∈ es, ∃ x, p.1 = .int .i64 x ∧ inR x := fun p hp => by
    obtain ⟨v, hv⟩ := hko p hp
    obtain ⟨x, _, hx, hw⟩ := Maps.keyOf_i64 hk hv
    exact ⟨x, hx, wf_i64 hw⟩
  subst hD
  refine perm_intKeys hpw (fun p hp => by obtain ⟨x, hx, _⟩ := hall p hp; exact ⟨x, hx⟩) hnd fun x => ?_
  by_cases hx : inR x
  · exact hm x hx
  · refine ⟨fun h => absurd (hin x h) hx, fun h => ?_⟩
    rw [has_eq, List.any_eq_true] at h
    obtain ⟨p, hp, hs⟩ := h
    obtain ⟨y, hy, hy2⟩ := hall p hp
    rw [hy] at hs
    have : y = x := by simpa [Lit.sameKey] using hs
    exact absurd (this ▸ hy2) hx
theorem sorted_self {L : List Int} (h : L.Pairwise (fun x y => x < y)) : L.mergeSort (fun x y => decide (x ≤ y)) = L :=
  List.mergeSort_of_pairwise (h.imp fun h => by simpa using Int.le_of_lt h)
/-- the accounts -/
def accsB (M : List LnM) : List Int := M.map (·.c)
theorem accs_rise {M : List LnM} (h : RiseB M) : (accsB M).Pairwise (fun x y => x < y) := List.pairwise_map.2 h
theorem hasB_mem {M : List LnM} {k : Int} : hasB M k = true ↔ k ∈ accsB M := by
  unfold hasB accsB
  rw [List.any_eq_true, List.mem_map]
  simp
/-- slices.Sorted(maps.Keys(..)) of a chart -/
theorem bkkeys {N : Nat} {w : World} {p bm : Nat} {M : List LnM} (hM : M.length ≤ 1000000) (h : BooksIs N w p bm M) :
    Calls Try.prog 31 #[.func (.func 45) #[] #[.pointer (some ⟨w.heap.size, 0, none⟩)]] (w.alloc (.cells #[.map (some bm)] 60)) fun e w' => ∃ (a : Option Addr) (cap : Nat), e = .returned (.slice a M.length cap) ∧
      w'.ownsRow w.heap.size 3 1 (.slice a M.length cap) (accsB M).length ((accsB M).flatMap fun x => [encZ x]) ∧ Below w.heap.size w w' := by
  obtain ⟨f, cn, _, ⟨D, h1, h2, h3, h4⟩, hF⟩ := h.map
  have hn := hM
  have hp : (accsB M).Perm (intKeys D) := perm_keys h1 ((accs_rise h.rise).imp fun h => by omega) (fun x hx => by
    obtain ⟨y, hy, rfl⟩ := List.mem_map.1 hx
    exact ⟨by have := (h.ok y hy).2; omega, by have := (h.ok y hy).2; omega⟩) (fun x hx => by
    rw [h3 _ (by trivial), hF x hx, ← hasB_mem]
    by_cases hb : hasB M x = true
    · rw [if_pos hb, hb]; simp
    · rw [if_neg hb]; simp [hb])
  refine (sorted_made bm cn D _ w h1 (by rw [h2]; unfold maxLen; omega) (by rw [h2]; omega)).mono ?_
  rintro e w' ⟨v, ss, rfl, hs, ho, hb⟩
  have hl : ss.length = M.length := by rw [(hs.trans hp.symm).length_eq]; unfold accsB; rw [List.length_map]
  have hm : ss.mergeSort (fun x y => decide (x ≤ y)) = accsB M := (mergeSort_of_perm_i (hs.trans hp.symm)).trans (sorted_self (accs_rise h.rise))
  rw [hm, hl] at ho
  obtain ⟨a, cap, rfl⟩ := owns_split ho
  have hb0 := (Below.refl w.heap.size w).alloc (Nat.le_refl _) (.cells #[.map (some bm)] 60)
  refine ⟨a, cap, rfl, ?_, hb0.trans (hb.mono hb0.size)⟩
  have e1 : (accsB M).length = M.length := by unfold accsB; rw [List.length_map]
  have e2 : ((accsB M).flatMap fun x => [encZ x]) = (accsB M).map encZ := List.map_eq_flatMap.symm
  rw [e1, e2]
  exact ownsRow_base_a ho (by simp)
theorem accs_at (M : List LnM) (i : Nat) (hi : i < M.length) : (accsB M).getD i 0 = (M.getD i ln0).c := by
  unfold accsB
  simp [List.getD, hi]
theorem getB_at {M : List LnM} (h : RiseB M) {i : Nat} (hi : i < M.length) : getB M (M.getD i ln0).c = (M.getD i ln0).n := getB_in h (by simp [List.getD, hi])
def BListIs (M : List LnM) (w : World) (e : Ending) (w' : World) : Prop := ∃ (a : Option Addr) (c : Nat), e = .returned (.slice a M.length c) ∧ w'.ownsRow w.heap.size 76 2 (.slice a M.length c) M.length (M.flatMap lnC) ∧ Below w.heap.size w w'
set_option maxRecDepth 100000 in
set_option maxHeartbeats 1000000 in
theorem bklist_any (N p bm : Nat) (M : List LnM) (hML : M.length ≤ 1000000) (w : World) (h : BooksIs N w p bm M) :
    Calls Try.prog 20 #[.pointer (some ⟨p, 0, none⟩)] w (BListIs M w) := by
  obtain ⟨i0, hi, hz0, hz1, hz2⟩ := info_parts (show (Try.prog.info? 76).map (fun i => (i.zero, i.size, i.bytes)) = some (some (.agg #[.int .i64 0, .int .i64 0]), 2, 16) by kernel_rfl)
  have HI := hide hi
  have HZ0 := hide hz0
  have HZ1 := hide hz1
  have HZ2 := hide hz2
  have HC := hide h
  have HSO := hide (bkkeys hML h)
  have e0 := cell_of_block h.head 0
  clear hi hz0 hz1 hz2 h
  go_enter Try.func20, Try.ntmps20
  go_wp2_with fail
  refine (keys_made (some bm) w).mono ?_
  rintro e w1 ⟨rfl, rfl⟩
  go_wp2_with fail
  refine HSO.out.mono ?_
  rintro e w2 ⟨ka, kc, rfl, ho, hb⟩
  have HKO := hide ho
  have C2 := hide (HC.out.below hb)
  have B2 := hide hb
  have hcl : (accsB M).length = M.length := by unfold accsB; rw [List.length_map]
  have HCL := hide hcl
  clear ho hb HSO e0 hcl HC
  go_wp2_with fail
  go_loopw [3, 15] (fun l i W => ∃ (m : Nat) (a : Option Addr) (c : Nat), m ≤ M.length ∧ l = .slice a m c ∧ i = .int .i64 m ∧ W.ownsRow w.heap.size 76 2 (.slice a m c) m ((M.take m).flatMap lnC) ∧ BooksIs N W p bm M ∧ W.ownsRow w.heap.size 3 1 (.slice ka M.length kc) (accsB M).length ((accsB M).flatMap fun x => [encZ x]) ∧ Below w.heap.size w W) (fun _ i _ => M.length - (Go.RowKit.intOf i).toNat)
  case atStart => exact ⟨0, none, 0, by omega, rfl, rfl, World.ownsRow_nil _ _ _ _, C2.out, HKO.out, B2.out⟩
  case round =>
    obtain ⟨m, a, c, hm, rfl, rfl, ho, hc, hk, hb⟩ := hrel
    have OA := hide ho
    have CA := hide hc
    have OK := hide hk
    have BA := hide hb
    clear ho hc hk hb HKO C2 B2
    by_cases hlt : m < M.length
    · obtain ⟨g, rfl, -, hgl, hkc⟩ := owns_rows (fun x => [encZ x]) (fun _ => rfl) 0 OK.out m (by rw [HCL.out]; exact hlt)
      have ek : wr.cell? ⟨g, m, none⟩ = some (.int .i64 (M.getD m ln0).c) := by
        have := hkc 0 (by decide)
        rw [Nat.mul_one, Nat.add_zero, accs_at M m hlt] at this
        exact this
      have hok := CA.out.ok (M.getD m ln0) (by simp [List.getD, hlt])
      have hin : inR (M.getD m ln0).c := ⟨by omega, by omega⟩
      have hlk := CA.out.at1 hin
      rw [getB_at CA.out.rise hlt] at hlk
      have e0 := cell_of_block CA.out.head 0
      have HTN := hide (show M.take (m + 1) = M.take m ++ [M.getD m ln0] by rw [List.take_succ_eq_append_getElem hlt]; simp [List.getD, hlt])
      generalize M.getD m ln0 = x at *
      clear hkc hin hok
      obtain ⟨xc, xn⟩ := x
      dsimp only at *
      have hal := (Below.refl wr.heap.size wr).alloc (Nat.le_refl _) (.cells #[.int .i64 xc, .int .i64 xn] 76)
      have XN := hide (heap_new wr (.cells #[.int .i64 xc, .int .i64 xn] 76))
      have OA2 := hide (owns_below OA.out hal)
      have OK2 := hide (owns_below OK.out hal)
      have CA2 := hide (CA.out.below hal)
      have BA2 := hide (BA.out.trans (hal.mono BA.out.size))
      have hw2 : w.heap.size ≤ (wr.alloc (.cells #[.int .i64 xc, .int .i64 xn] 76)).heap.size := BA2.out.size
      clear hal OA OK CA BA
      go_wp2_with (at_builtin; refine wpList_append_own2 _ rfl _ _ 63 rfl w.heap.size 76 i0 (.agg #[.int .i64 0, .int .i64 0]) 2 16 Try.underlying63 HI.out HZ0.out HZ1.out HZ2.out rfl (by decide) (.slice a m c) m ((M.take m).flatMap lnC) rfl OA2.out ⟨wr.heap.size, 0, none⟩ 1 1 (by decide) (lnC ⟨xc, xn⟩) rfl rfl (cells_new XN.out) (lnC_one _) (by unfold maxLen; omega) (by omega) hw2 ?_; intro g3 c3' w3 ho hgr hnil; have OA3 := hide ho; have OK3 := hide (owns_still OK2.out OA2.out (by decide) hgr); have CA3 := hide (CA2.out.kept ((grown_stays OA2.out hgr CA2.out.head (by decide)).trans CA2.out.head.symm) (grown_other OA2.out hgr CA2.out.lt.1 CA2.out.noCells)); have BA3 := hide (BA2.out.grown hgr BA2.out.size (fun jj hj => (OA2.out.lt jj hj).1)); clear ho hgr hnil)
      go_roundw
      case rel => exact ⟨m + 1, _, _, by omega, rfl, by go_num, by rw [HTN.out, List.flatMap_append]; simpa using OA3.out, CA3.out, OK3.out, BA3.out⟩
      case measure => simp [Go.RowKit.intOf]; omega
    · obtain rfl : M.length = m := by omega
      rw [List.take_length] at OA
      go_wp2_with fail
      go_ret
      exact ⟨a, c, rfl, OA.out, BA.out⟩
end Go.Proofs.Ytjnfmgbbhiklaaa
