/-
  Lemmas and contracts of this project's own, put together: Lv1, Lv2, Lv3, Lv4.
-/
import Derived.Laws.IdiomRangeMap
import Derived.Lib.AppendZeros
import Derived.Test.YtjfmkfhjbdiojaaGreatPk18
namespace Go.Proofs.YtjfmkfhjbdiojaaGreat
set_option linter.unusedSimpArgs false
set_option linter.unusedVariables false
open Go.RowKit Go.WideShapes Go.ChangeShapes Go.ChangeAt Go.Deep W

theorem nums_of_owns {w : World} {B : Nat} {v : Value} {L : List Int} (h : w.ownsRow B 3 1 v L.length (L.map (Value.int .i64))) : NumsAt w .i64 v L := by
  obtain ⟨hl, h | ⟨g, cap, cur, rfl, hb, hg, hn, hm, hc, hx⟩⟩ := h
  · exact .inl ⟨h.1, List.length_eq_zero_iff.mp h.2⟩
  · rcases Nat.eq_zero_or_pos L.length with e | e
    · exact .inr (.inr ⟨⟨g, 0, none⟩, cap, by rw [e], List.length_eq_zero_iff.mp e⟩)
    · refine .inr (.inl ⟨g, 0, cap, rfl, hn, hm, e, fun i hi => ?_⟩)
      rw [Nat.zero_add, cell_of_block hg]
      have h1 : (cur.toList.take (L.length * 1))[i]? = (L.map (Value.int .i64))[i]? := by rw [hx]
      rw [Nat.mul_one, List.getElem?_take_of_lt hi, Array.getElem?_toList] at h1
      rw [h1]
      simp [List.getD, hi]
theorem nums17 {w : World} {v : Value} {zs : List Int} (h : NumsAt w .i64 v zs) : ∃ (a : Option Addr) (cap : Nat), v = .slice a zs.length cap ∧ (0 < zs.length → ∃ ad : Addr, a = some ad ∧ ∀ j u, (zs.map (Value.int .i64))[j]? = some u → w.cell? (ad.add j) = some u) := by
  rcases h with ⟨rfl, rfl⟩ | ⟨b, off, cap, rfl, hc, hm, hp, hi⟩ | ⟨a, cap, rfl, rfl⟩
  · exact ⟨none, 0, rfl, fun h => absurd h (by simp)⟩
  · refine ⟨some ⟨b, off, none⟩, cap, rfl, fun _ => ⟨_, rfl, fun j u hu => ?_⟩⟩
    have hj : j < zs.length := by
      rcases Nat.lt_or_ge j zs.length with e | e
      · exact e
      · rw [List.getElem?_eq_none (by simpa using e)] at hu; cases hu
    have h1 := hi j hj
    rw [show (⟨b, off, none⟩ : Addr).add j = ⟨b, off + j, none⟩ by unfold Addr.add; split <;> simp_all, h1]
    simp [hj] at hu
    simp [List.getD, hj, hu]
  · exact ⟨some a, cap, rfl, fun h => absurd h (by simp)⟩
set_option maxRecDepth 100000 in
/-- a slice that holds nothing, appended -/
theorem run_append_nothing (w : World) (ty : TypeId) (base : Option Addr) (l c : Nat) (hlc : l ≤ c) (b2 : Option Addr) (c2 : Nat) :
    (Builtin.append_ #[59, 59] ty #[.slice base l c, .slice b2 0 c2]).run Tryz.prog w = .ok (.slice base l c) w := by
  obtain ⟨i0, hi, hs⟩ : ∃ i0, Tryz.prog.info? 3 = some i0 ∧ i0.size = 1 := ⟨_, rfl, rfl⟩
  have hsz : (sizeOf 3).run Tryz.prog w = .ok i0.size w := by simp [sizeOf, typeInfo, hi]
  cases base <;> cases b2 <;> simp [Builtin.append_, run_underlying Tryz.underlying59, run_underlying Tryz.underlying3, hsz, Builtin.lenOf, hlc, Builtin.firstCells, storeCells, loadCells, loadCellsFrom, hs, Result.andThen]
section
variable {B0 nb pg : Nat} {A : MvA} {X : MvS}
set_option maxRecDepth 100000 in
set_option maxHeartbeats 4000000 in
theorem needed17 (b : Nat) (hb : b < nb) (w : World) (h : MvAt w B0 A nb pg X) : Calls Tryz.prog 58 #[.agg #[.pointer (some ⟨A.d, 0, none⟩), .pointer (some ⟨A.pp, 0, none⟩), .pointer (some ⟨A.sb, 0, none⟩), .pointer (some ⟨A.mp, 0, none⟩)], .map none, .int .i64 (b : Int)] w fun e w' => e = .returned (.int .i64 ((liveN X.M (b : Int) : Nat) : Int)) ∧ Below w.heap.size w w' := by
  have HL := hide (fun W (hW : MvAt W B0 A nb pg X) => live_yes hW.mp b hb)
  have hll := live_le X.M (b : Int)
  have htl := total_le X.M
  have hml := h.mp.big.2.2
  obtain ⟨lz, hlz⟩ : ∃ z : Int, ((liveN X.M (b : Int) : Nat) : Int) = z := ⟨_, rfl⟩
  have hw : wrap64 (lz + 0) = lz + 0 := by rw [← hlz]; unfold wrap64; omega
  have hw0 : lz + 0 = lz := by omega
  have hw2 : wrap64 lz = lz := by rw [← hlz]; unfold wrap64; omega
  rw [hlz] at HL ⊢
  have H := hide h
  clear h hll htl hml hlz hb
  obtain ⟨bz, hbz⟩ : ∃ z : Int, (b : Int) = z := ⟨_, rfl⟩
  rw [hbz] at HL ⊢
  clear hbz
  have X1 := hide (H.out.below ((Below.refl w.heap.size w).alloc (Nat.le_refl _) (.cells #[.pointer (some ⟨A.d, 0, none⟩), .pointer (some ⟨A.pp, 0, none⟩), .pointer (some ⟨A.sb, 0, none⟩), .pointer (some ⟨A.mp, 0, none⟩)] 29)))
  have T1 := hide (heap_new w (.cells #[.pointer (some ⟨A.d, 0, none⟩), .pointer (some ⟨A.pp, 0, none⟩), .pointer (some ⟨A.sb, 0, none⟩), .pointer (some ⟨A.mp, 0, none⟩)] 29))
  have B1 := hide ((Below.refl w.heap.size w).alloc (Nat.le_refl _) (.cells #[.pointer (some ⟨A.d, 0, none⟩), .pointer (some ⟨A.pp, 0, none⟩), .pointer (some ⟨A.sb, 0, none⟩), .pointer (some ⟨A.mp, 0, none⟩)] 29))
  go_enter Tryz.func58, Tryz.ntmps58
  go_upto_region 1 with (fail)
  generalize w.alloc (.cells #[.pointer (some ⟨A.d, 0, none⟩), .pointer (some ⟨A.pp, 0, none⟩), .pointer (some ⟨A.sb, 0, none⟩), .pointer (some ⟨A.mp, 0, none⟩)] 29) = w1 at *
  obtain ⟨tb, htb⟩ : ∃ k, w.heap.size = k := ⟨_, rfl⟩
  rw [htb] at T1 B1 ⊢
  have HTB := hide htb
  have hle : tb ≤ w1.heap.size := by have := heap_lt T1.out; omega
  clear H htb
  have hmk := @run_makeMap Tryz.prog
  go_upto_region 2 with (fail)
  have X2 := hide (X1.out.below ((Below.refl w1.heap.size w1).alloc (Nat.le_refl _) (.map #[] 0)))
  have T2 := hide ((((Below.refl w1.heap.size w1).alloc (Nat.le_refl _) (.map #[] 0)).block _ (heap_lt T1.out)).trans T1.out)
  have M2 := hide (heap_new w1 (.map #[] 0))
  have B2 := hide (B1.out.alloc hle (.map #[] 0))
  clear X1 T1 B1 hmk
  generalize w1.alloc (.map #[] 0) = w2 at *
  generalize w1.heap.size = mb at *
  have hle2 : tb ≤ w2.heap.size := by have := heap_lt T2.out; omega
  have hrg := run_range_nilMap (P := Tryz.prog) w2 76 3 41 Tryz.underlying76
  have hnx : ∀ ty, (Instr.next (.pointer (some ⟨w2.heap.size, 0, none⟩)) false ty).run Tryz.prog (w2.alloc (.mapIter none 0 #[] 0)) = _ := fun ty => run_next_nilMap w2 ty 0 0 #[]
  go_wp2_with fail
  refine wp_loop_rounds 1 ?_
  rw [rounds_succ]
  go_upto_region 7 with (fail)
  have hal := (Below.refl w2.heap.size w2).alloc (Nat.le_refl _) (.mapIter none 0 #[] 0)
  have X3 := hide (X2.out.below hal)
  have T3 := hide ((hal.block _ (heap_lt T2.out)).trans T2.out)
  have M3 := hide ((hal.block _ (heap_lt M2.out)).trans M2.out)
  have B3 := hide (B2.out.alloc hle2 (.mapIter none 0 #[] 0))
  clear hal hrg hnx X2 T2 M2 B2
  generalize w2.alloc (.mapIter none 0 #[] 0) = w3 at *
  have a3 := cell_of_block T3.out 3
  go_wp2_with fail
  refine (HL.out _ X3.out).mono ?_
  rintro e w4 ⟨rfl, rfl⟩
  have hlen : ∀ ty, (Builtin.len_ #[168] ty #[.map (some mb)]).run Tryz.prog w3 = .ok (.int .i64 0) w3 := fun ty => by
    simp [Builtin.len_, run_underlying Tryz.underlying168, MapKept.run_getObj_map M3.out, goInt, Result.andThen]
  go_wp2_with fail
  go_ret
  exact ⟨by (try rw [hw2]); rfl, by rw [HTB.out]; exact B3.out⟩
theorem wrap_sm17 (n : Int) (h : -1000000 ≤ n ∧ n ≤ 1000000) : wrap64 n = n := by unfold wrap64; omega
set_option maxRecDepth 100000 in
theorem grow17 (n : Nat) (h0 : 0 < n) (hn : n ≤ 1000000) (w : World) : Calls Tryz.prog 86 #[.slice none 0 0, .int .i64 (n : Int)] w fun e w' => ∃ g cap, e = .returned (.slice (some ⟨g, 0, none⟩) 0 cap) ∧ w'.ownsRow w.heap.size 3 1 (.slice (some ⟨g, 0, none⟩) 0 cap) 0 [] ∧ Below w.heap.size w w' := by
  obtain ⟨i0, hi, hz, hs, hb⟩ : ∃ i0, Tryz.prog.info? 3 = some i0 ∧ i0.zero = some (.int .i64 0) ∧ i0.size = 1 ∧ i0.bytes = 8 := ⟨_, rfl, rfl, rfl, rfl⟩
  have hgr := fun ty => Lib.run_append_nil_zeros (P := Tryz.prog) w 59 3 ty 3 i0 (.int .i64 0) .i64 .i64 Tryz.underlying59 Tryz.underlying3 hi hz n h0 (by omega) (by omega) (by rw [hb]; omega)
  have hge := grownCap_ge w n 0 3
  have hle := grownCap_le_maxLen w n 0 3 (by unfold maxLen; omega)
  generalize grownCap w n 0 3 = cap at *
  obtain ⟨ob, hob⟩ : ∃ ob, ob = (Obj.cells (Builtin.zeroCells (Value.int .i64 0).cells n ++ Builtin.zeroCells (Value.int .i64 0).cells (cap - n)) 3) := ⟨_, rfl⟩
  rw [← hob] at hgr
  have HOWN := hide (show (w.drew.alloc ob).ownsRow w.heap.size 3 1 (.slice (some ⟨w.heap.size, 0, none⟩) 0 cap) 0 [] from by
    refine ⟨rfl, .inr ⟨w.heap.size, cap, Builtin.zeroCells (Value.int .i64 0).cells n ++ Builtin.zeroCells (Value.int .i64 0).cells (cap - n), rfl, Nat.le_refl _, ?_, Nat.zero_le _, hle, ?_, rfl⟩⟩
    · rw [hob]; exact heap_new w.drew _
    · simp [Builtin.zeroCells, Value.cells]; omega)
  have HBE := hide (show Below w.heap.size w (w.drew.alloc ob) from ((Below.refl _ w).drew).alloc (Nat.le_refl _) ob)
  have hn0 : (0 : Int) < (n : Int) := by omega
  have hn2 : wrap64 (n : Int) = (n : Int) := wrap_sm17 _ (by omega)
  have hn1 : ¬ ((n : Int) < 0) := by omega
  have hcap : (0 : Int) ≤ (cap : Int) := by omega
  clear hob hge hle hi hz hs hb hn
  obtain ⟨nz, hnz⟩ : ∃ z : Int, (n : Int) = z := ⟨_, rfl⟩
  rw [hnz] at hgr hn0 hn1 hn2 ⊢
  clear hnz h0
  generalize hww : w.drew.alloc ob = w1 at *
  go_enter Tryz.func86, Tryz.ntmps86
  go_wp2_with (at_builtin; refine Lib.wpList_append_run _ rfl _ _ 59 3 rfl (.slice none 0 0) (.int .i64 (wrap64 nz)) rfl rfl _ _ (by rw [hn2]; exact hgr _) ?_)
  go_ret
  exact ⟨_, _, rfl, HOWN.out, HBE.out⟩
end
end Go.Proofs.YtjfmkfhjbdiojaaGreat

namespace Go.Proofs.YtjfmkfhjbdiojaaGreat
set_option linter.unusedSimpArgs false
set_option linter.unusedVariables false
open Go.RowKit Go.WideShapes Go.ChangeShapes Go.ChangeAt Go.Deep W

theorem owns_cap {w : World} {B : Nat} {a : Option Addr} {n cap : Nat} {xs : List Value} (h : w.ownsRow B 3 1 (.slice a n cap) n xs) : n ≤ cap := by
  obtain ⟨hl, h | ⟨g, cap', cur, hv, hb, hg, hn, hm, hc, hx⟩⟩ := h
  · obtain ⟨h1, h2⟩ := h
    omega
  · injection hv with h1 h2 h3
    omega
theorem one_cell17 (L : List Int) : ∀ u ∈ L.map (Value.int .i64), u.oneCell' = true := by
  intro u hu
  obtain ⟨x, -, rfl⟩ := List.mem_map.mp hu
  rfl
/-- what the first k lists hold -/
def accL (LL : List (List Int)) (k : Nat) : List Int := (LL.take k).flatten
def totN (LL : List (List Int)) (k : Nat) : Nat := (accL LL k).length
theorem totN_le (LL : List (List Int)) (k : Nat) : totN LL k ≤ LL.flatten.length := by
  unfold totN accL
  rw [show LL.flatten = (LL.take k).flatten ++ (LL.drop k).flatten by rw [← List.flatten_append, List.take_append_drop], List.length_append]
  omega
theorem take_next17 (LL : List (List Int)) (k : Nat) (hk : k < LL.length) : accL LL (k + 1) = accL LL k ++ LL.getD k [] := by
  unfold accL
  rw [List.take_succ_eq_append_getElem hk, List.flatten_append]
  simp [List.getD, hk]
set_option maxRecDepth 100000 in
theorem grow17_zero (w : World) : Calls Tryz.prog 86 #[.slice none 0 0, .int .i64 0] w fun e w' => e = .returned (.slice none 0 0) ∧ w = w' := by
  go_enter Tryz.func86, Tryz.ntmps86
  go_wp2_with fail
  go_ret
  exact ⟨rfl, rfl⟩
set_option maxRecDepth 100000 in
set_option maxHeartbeats 4000000 in
theorem concat17 (LL : List (List Int)) (vs : List Value) (n : Nat) (hn : LL.length = n) (hvn : vs.length = n) (hT : LL.flatten.length ≤ 1000000) (ob : Nat) (w : World) (hob : w.heap[ob]? = some (.cells vs.toArray 59 (0, 0))) (hvs : ∀ k, k < n → NumsAt w .i64 (vs.getD k undef) (LL.getD k [])) (hn2 : n ≤ 1000) :
    Calls Tryz.prog 56 #[.slice (some ⟨ob, 0, none⟩) n n] w fun e w' => ∃ v, e = .returned v ∧ NumsAt w' .i64 v LL.flatten ∧ Below w.heap.size w w' := by
  obtain ⟨i0, hi, hz, hs, hby⟩ : ∃ i0, Tryz.prog.info? 3 = some i0 ∧ i0.zero = some (.int .i64 0) ∧ i0.size = 1 ∧ i0.bytes = 8 := ⟨_, rfl, rfl, rfl, rfl⟩
  have HI := hide hi
  have HZ0 := hide hz
  have HZ1 := hide hs
  have HZ2 := hide hby
  have HT := hide hT
  have HN2 := hide hn2
  have HNL := hide hn
  have HVS := hide hvs
  have HCE := hide (show ∀ k, k < n → ∀ W : World, W.heap[ob]? = some (.cells vs.toArray 59 (0, 0)) → W.cell? ⟨ob, k, none⟩ = some (vs.getD k undef) from fun k hk W h => by
    rw [cell_of_block h]
    have : k < vs.length := by omega
    simp [List.getD, this])
  have HOB := hide hob
  have HTL := hide (show accL LL n = LL.flatten by unfold accL; rw [List.take_of_length_le (by omega)])
  clear hi hz hs hby hT hn2 hn hvn hob hvs
  go_enter Tryz.func56, Tryz.ntmps56
  go_wp2_with fail
  go_loopw [3, 11] (fun s i W => ∃ k : Nat, k ≤ n ∧ i = .int .i64 (k : Int) ∧ s = .int .i64 (totN LL k : Int) ∧ W = w) (fun _ i _ => n - (intOf i).toNat)
  case atStart => exact ⟨0, by omega, rfl, rfl, rfl⟩
  case round =>
  obtain ⟨k, hk, rfl, rfl, rfl⟩ := hrel
  rcases Nat.lt_or_ge k n with hlt | hge
  · have hkI : (k : Int) < (n : Int) := by omega
    have hcl := HCE.out k hlt _ HOB.out
    obtain ⟨a, cap, hv, -⟩ := nums17 (HVS.out k hlt)
    rw [hv] at hcl
    have hnx := congrArg List.length (take_next17 LL k (by rw [HNL.out]; exact hlt))
    rw [List.length_append] at hnx
    have h1 := totN_le LL (k + 1)
    have hT := HT.out
    have HT1 := hide (show ((totN LL k : Nat) : Int) + ((LL.getD k []).length : Int) = (totN LL (k + 1) : Int) by unfold totN; omega)
    have htb : totN LL (k + 1) ≤ 1000000 := by omega
    have htb0 : totN LL k ≤ 1000000 := by have := totN_le LL k; omega
    clear hnx h1 hT hv hk
    generalize (LL.getD k []).length = m at *
    obtain ⟨z1, hz1⟩ : ∃ z : Int, ((totN LL k : Nat) : Int) = z := ⟨_, rfl⟩
    obtain ⟨z2, hz2⟩ : ∃ z : Int, ((totN LL (k + 1) : Nat) : Int) = z := ⟨_, rfl⟩
    have HZ2' := hide hz2
    have h20 : ¬ (z2 < 0) := by omega
    have hw : wrap64 (z1 + (m : Int)) = z2 := by rw [← hz1, HT1.out, hz2]; exact wrap_sm17 _ (by omega)
    rw [hz1]
    have hk1 : (k : Int) ≤ 1000 := by have := HN2.out; omega
    clear hz1 hz2 HT1 htb htb0
    go_wp2_with fail
    go_roundw
    case rel => exact ⟨k + 1, hlt, by go_num, by (try rw [hw]); rw [HZ2'.out], by first | trivial | rfl⟩
    case measure => simp [intOf]; omega
  · obtain rfl : n = k := by omega
    obtain ⟨wq, hwq⟩ : ∃ wq, wq = wr := ⟨_, rfl⟩
    subst hwq
    obtain ⟨T, hT⟩ : ∃ T, totN LL n = T := ⟨_, rfl⟩
    have HTT := hide (show T ≤ 1000000 by have := HT.out; have := totN_le LL n; omega)
    rw [hT]
    clear hT
    clear hk hge
    go_upto_region 9 with (fail)
    go_cut [6] from 23 to 25 (fun s W => ∃ (a : Option Addr) (cap : Nat), s = .slice a 0 cap ∧ W.ownsRow wq.heap.size 3 1 (.slice a 0 cap) 0 [] ∧ Below wq.heap.size wq W)
    case first =>
      rcases Nat.eq_zero_or_pos T with e | e
      · subst e
        rw [show ((0 : Nat) : Int) = 0 from rfl]
        go_wp2_with fail
        refine (grow17_zero _).mono ?_
        rintro e w2 ⟨rfl, rfl⟩
        go_wp2_with fail
        go_meet
        exact ⟨none, 0, rfl, World.ownsRow_nil _ _ _ _, Below.refl _ _⟩
      · have HGR := hide (grow17 T e HTT.out wq)
        clear e
        go_wp2_with fail
        refine HGR.out.mono ?_
        rintro e w2 ⟨g, cap, rfl, ho, hb⟩
        have HO := hide ho
        have HB := hide hb
        clear ho hb
        go_wp2_with fail
        go_meet
        exact ⟨some ⟨g, 0, none⟩, cap, rfl, HO.out, HB.out⟩
    case rest =>
    obtain ⟨a, cap, rfl, ho, hb⟩ := hcut
    have HO := hide ho
    have HB := hide hb
    clear ho hb
    go_wp2_with fail
    go_loopw [6, 27] (fun s i W => ∃ (k : Nat) (a : Option Addr) (cap : Nat), k ≤ n ∧ i = .int .i64 (k : Int) ∧ s = .slice a (accL LL k).length cap ∧ W.ownsRow wq.heap.size 3 1 (.slice a (accL LL k).length cap) (accL LL k).length ((accL LL k).map (Value.int .i64)) ∧ Below wq.heap.size wq W) (fun _ i _ => n - (intOf i).toNat)
    case atStart => exact ⟨0, a, cap, by omega, rfl, rfl, HO.out, HB.out⟩
    case round =>
    obtain ⟨k, a, cap, hk, rfl, rfl, ho, hb⟩ := hrel
    have O1 := hide ho
    have B1 := hide hb
    clear ho hb HO HB
    rcases Nat.lt_or_ge k n with hlt | hge
    · have hkI : (k : Int) < (n : Int) := by omega
      have hob2 := (B1.out.block _ (heap_lt HOB.out)).trans HOB.out
      have hcl := HCE.out k hlt _ hob2
      have HK := hide hlt
      have hns := (HVS.out k hlt).below B1.out
      obtain ⟨a2, cap2, hv, hsrc⟩ := nums17 hns
      rw [hv] at hcl
      have hnx := take_next17 LL k (by rw [HNL.out]; exact hlt)
      have h1 := totN_le LL (k + 1)
      unfold totN at h1
      rw [hnx, List.length_append] at h1
      have HNX := hide hnx
      have hle := owns_cap O1.out
      have HTB := hide (show (accL LL k).length + (LL.getD k []).length ≤ 1000000 by have := HT.out; omega)
      have hk1 : (k : Int) ≤ 1000 := by have := HN2.out; omega
      clear hns hv hnx h1 hk hlt hob2
      generalize LL.getD k [] = zk at *
      generalize (accL LL k) = acc at *
      rcases Nat.eq_zero_or_pos zk.length with e | e
      · obtain rfl := List.length_eq_zero_iff.mp e
        have hrun := fun ty => run_append_nothing wr ty a acc.length cap hle a2 cap2
        have HACC := hide (show acc ++ ([] : List Int) = acc from List.append_nil _)
        clear e hle hsrc
        go_wp2_with (at_builtin; refine Lib.wpList_append_run _ rfl _ _ 59 59 rfl (.slice a acc.length cap) (.slice a2 0 cap2) rfl rfl _ _ (hrun _) ?_)
        go_roundw
        case rel => exact ⟨k + 1, a, cap, HK.out, by go_num, by rw [HNX.out, HACC.out], by rw [HNX.out, HACC.out]; exact O1.out, B1.out⟩
        case measure => have := HK.out; simp [intOf]; omega
      · obtain ⟨ad, rfl, hnews⟩ := hsrc e
        have HNEW := hide hnews
        have HZL := hide (show (zk.map (Value.int .i64)).length = zk.length * 1 by simp)
        have HONE := hide (one_cell17 zk)
        have HGE := hide (fun j (h : (Value.slice a acc.length cap).ownBlock = some j) => (O1.out.lt j h).1)
        have hbs : wq.heap.size ≤ wr.heap.size := B1.out.size
        have HE := hide e
        clear hnews hsrc e hle
        go_wp2_with (at_builtin; refine wpList_append_own2 _ rfl _ _ 59 rfl wq.heap.size 3 i0 (.int .i64 0) 1 8 Tryz.underlying59 HI.out HZ0.out HZ1.out HZ2.out rfl (by decide) (.slice a acc.length cap) acc.length (acc.map (Value.int .i64)) rfl O1.out ad zk.length cap2 HE.out (zk.map (Value.int .i64)) rfl HZL.out HNEW.out HONE.out (by unfold maxLen; have := HTB.out; omega) (by have := HTB.out; omega) hbs ?_; intro g c3 w' ho hgr hnil; have O2 := hide ho; have B2 := hide (B1.out.grown hgr B1.out.size HGE.out); clear ho hgr hnil)
        go_roundw
        case rel => exact ⟨k + 1, some ⟨g, 0, none⟩, c3, HK.out, by go_num, by rw [HNX.out, List.length_append], by rw [HNX.out, List.length_append, List.map_append]; exact O2.out, B2.out⟩
        case measure => have := HK.out; simp [intOf]; omega
    · obtain rfl : n = k := by omega
      have HNU := hide (nums_of_owns O1.out)
      rw [HTL.out] at HNU
      clear hk hge
      go_wp2_with fail
      go_ret
      exact ⟨_, rfl, by rw [HTL.out]; exact HNU.out, B1.out⟩
section
variable {B0 nb pg sz : Nat} {A : MvA} {X : MvS} {N : Int}
set_option maxRecDepth 100000 in
set_option maxHeartbeats 4000000 in
theorem passed17 (sv mv : Value) (sk mk : List Int) (hl : sk.length + mk.length ≤ 100000) (w : World) (h : MvAt w B0 A nb pg X) (hs : NumsAt w .i64 sv sk) (hm : NumsAt w .i64 mv mk) : Calls Tryz.prog 27 #[.agg #[.pointer (some ⟨A.d, 0, none⟩), .pointer (some ⟨A.pp, 0, none⟩), .pointer (some ⟨A.sb, 0, none⟩), .pointer (some ⟨A.mp, 0, none⟩)], sv, mv] w fun e w' => ∃ v, e = .returned v ∧ NumsAt w' .i64 v (sk ++ mk ++ [X.op]) ∧ Below w.heap.size w w' := by
  have HOP := hide (fun W (hW : MvAt W B0 A nb pg X) => open_any W hW.st)
  obtain ⟨a1, c1, rfl, -⟩ := nums17 hs
  obtain ⟨a2, c2, rfl, -⟩ := nums17 hm
  have H := hide h
  have HS := hide hs
  have HM := hide hm
  have HL := hide hl
  clear h hs hm hl
  obtain ⟨oz, hoz⟩ : ∃ z, X.op = z := ⟨_, rfl⟩
  rw [hoz] at HOP ⊢
  clear hoz
  have hal := (Below.refl w.heap.size w).alloc (Nat.le_refl _) (.cells #[.pointer (some ⟨A.d, 0, none⟩), .pointer (some ⟨A.pp, 0, none⟩), .pointer (some ⟨A.sb, 0, none⟩), .pointer (some ⟨A.mp, 0, none⟩)] 29)
  have X1 := hide (H.out.below hal)
  have T1 := hide (heap_new w (.cells #[.pointer (some ⟨A.d, 0, none⟩), .pointer (some ⟨A.pp, 0, none⟩), .pointer (some ⟨A.sb, 0, none⟩), .pointer (some ⟨A.mp, 0, none⟩)] 29))
  have S1 := hide (HS.out.below hal)
  have M1 := hide (HM.out.below hal)
  have B1 := hide hal
  clear hal
  go_enter Tryz.func27, Tryz.ntmps27
  go_upto_region 1 with (fail)
  generalize w.alloc (.cells #[.pointer (some ⟨A.d, 0, none⟩), .pointer (some ⟨A.pp, 0, none⟩), .pointer (some ⟨A.sb, 0, none⟩), .pointer (some ⟨A.mp, 0, none⟩)] 29) = w1 at *
  clear H HS HM
  have a2' := cell_of_block T1.out 2
  go_wp2_with fail
  refine (HOP.out _ X1.out).mono ?_
  rintro e w2 ⟨rfl, rfl⟩
  clear a2'
  obtain ⟨o1, ho1⟩ : ∃ ob, ob = (Obj.cells #[.int .i64 oz] 3) := ⟨_, rfl⟩
  obtain ⟨o2, ho2⟩ : ∃ ob, ob = (Obj.cells #[.slice a1 sk.length c1, .slice a2 mk.length c2, .slice (some ⟨w1.heap.size, 0, none⟩) 1 1] 59) := ⟨_, rfl⟩
  have hal := ((Below.refl w1.heap.size w1).alloc (Nat.le_refl _) o1).alloc (by simp) o2
  have Q2 := hide (show ((w1.alloc o1).alloc o2).heap[w1.heap.size]? = some (.cells #[.int .i64 oz] 3 (0, 0)) by rw [heap_old _ _ _ (by simp), heap_new, ho1])
  have R2 := hide (show ((w1.alloc o1).alloc o2).heap[w1.heap.size + 1]? = some (.cells #[.slice a1 sk.length c1, .slice a2 mk.length c2, .slice (some ⟨w1.heap.size, 0, none⟩) 1 1] 59 (0, 0)) by rw [show w1.heap.size + 1 = (w1.alloc o1).heap.size by simp, heap_new, ho2])
  have S2 := hide (S1.out.below hal)
  have M2 := hide (M1.out.below hal)
  have B2 := hide (B1.out.trans (hal.mono B1.out.size))
  have HCC := hide (concat17 [sk, mk, [oz]] [.slice a1 sk.length c1, .slice a2 mk.length c2, .slice (some ⟨w1.heap.size, 0, none⟩) 1 1] 3 rfl rfl (by have := HL.out; simp; omega) (w1.heap.size + 1) ((w1.alloc o1).alloc o2) R2.out (fun k hk => by
    have hk3 : k = 0 ∨ k = 1 ∨ k = 2 := by omega
    rcases hk3 with rfl | rfl | rfl
    · exact S2.out
    · exact M2.out
    · exact .inr (.inl ⟨w1.heap.size, 0, 1, rfl, (show 1 ≤ 1 by decide), by unfold maxLen; decide, (show 0 < 1 by decide), fun i hi => by
        obtain rfl : i = 0 := by have : i < 1 := hi; omega
        exact cell_of_block Q2.out 0⟩)) (by decide))
  rw [show ([sk, mk, [oz]] : List (List Int)).flatten = sk ++ mk ++ [oz] by simp] at HCC
  go_wp2_with fail
  rw [← ho1, ← ho2]
  refine HCC.out.mono ?_
  rintro e w3 ⟨v, rfl, hn, hb⟩
  have N3 := hide hn
  have B3 := hide (B2.out.trans (hb.mono (by have := B2.out.size; omega)))
  clear hn hb HCC Q2 R2 S2 M2 B2 hal
  go_wp2_with fail
  go_ret
  exact ⟨v, rfl, N3.out, B3.out⟩
end

end Go.Proofs.YtjfmkfhjbdiojaaGreat

namespace Go.Proofs.YtjfmkfhjbdiojaaGreat
set_option linter.unusedSimpArgs false
set_option linter.unusedVariables false
open Go.RowKit Go.WideShapes Go.ChangeShapes Go.ChangeAt Go.Deep W

theorem new_one17 (w : World) (v : Value) (t : Nat) : ∀ (j : Nat) (u : Value), [v][j]? = some u → (w.alloc (.cells #[v] t)).cell? ((⟨w.heap.size, 0, none⟩ : Addr).add j) = some u := by
  intro j u hu
  cases j with
  | zero =>
    simp at hu
    subst hu
    exact cell_of_block (heap_new w (.cells #[v] t)) 0
  | succ j => simp at hu
theorem one_int17 (x : Int) : ∀ u ∈ [Value.int .i64 x], u.oneCell' = true := by
  intro u hu
  simp at hu
  subst hu
  rfl
def fullK (M : Spots) (pg : Nat) : Nat → List Int
  | 0 => []
  | k + 1 => if (pg : Int) - 1 ≤ ((liveN M (k : Int) : Nat) : Int) then fullK M pg k ++ [(k : Int)] else fullK M pg k
theorem fullK_le (M : Spots) (pg : Nat) : ∀ k, (fullK M pg k).length ≤ k
  | 0 => Nat.le_refl _
  | k + 1 => by
    have := fullK_le M pg k
    unfold fullK
    split
    · rw [List.length_append, List.length_singleton]; omega
    · omega
theorem fullK_mem (M : Spots) (pg : Nat) : ∀ k, ∀ x ∈ fullK M pg k, (pg : Int) - 1 ≤ ((liveN M x : Nat) : Int)
  | 0, x, hx => absurd hx (by simp [fullK])
  | k + 1, x, hx => by
    have ih := fullK_mem M pg k
    unfold fullK at hx
    split at hx
    · next h =>
      rcases List.mem_append.mp hx with e | e
      · exact ih x e
      · obtain rfl := List.mem_singleton.mp e
        exact h
    · exact ih x hx
theorem fullK_has (M : Spots) (pg : Nat) : ∀ k j : Nat, j < k → (pg : Int) - 1 ≤ ((liveN M (j : Int) : Nat) : Int) → (j : Int) ∈ fullK M pg k
  | 0, j, hj, _ => absurd hj (by omega)
  | k + 1, j, hj, hl => by
    unfold fullK
    rcases Nat.lt_or_ge j k with e | e
    · have := fullK_has M pg k j e hl
      split
      · exact List.mem_append.mpr (.inl this)
      · exact this
    · obtain rfl : j = k := by omega
      rw [if_pos hl]
      exact List.mem_append.mpr (.inr (by simp))
section
variable {B0 nb pg sz : Nat} {A : MvA} {X : MvS} {N : Int}
set_option maxRecDepth 100000 in
set_option maxHeartbeats 8000000 in
theorem lfull17 (hok : HOk nb pg sz N X) (hpg : 2 ≤ pg) (hpg2 : pg ≤ 64) (hnb : nb ≤ 256) (w : World) (h : MvAt w B0 A nb pg X) : Calls Tryz.prog 28 #[.agg #[.pointer (some ⟨A.d, 0, none⟩), .pointer (some ⟨A.pp, 0, none⟩), .pointer (some ⟨A.sb, 0, none⟩), .pointer (some ⟨A.mp, 0, none⟩)], .map none] w fun e w' => ∃ v, e = .returned v ∧ NumsAt w' .i64 v (fullK X.M pg nb) ∧ Below w.heap.size w w' := by
  obtain ⟨i0, hi, hz, hs, hby⟩ : ∃ i0, Tryz.prog.info? 3 = some i0 ∧ i0.zero = some (.int .i64 0) ∧ i0.size = 1 ∧ i0.bytes = 8 := ⟨_, rfl, rfl, rfl, rfl⟩
  have HI := hide hi
  have HZ0 := hide hz
  have HZ1 := hide hs
  have HZ2 := hide hby
  have HSH := hide (fun W (hW : MvAt W B0 A nb pg X) => shape_any A.p A.q A.B A.G X.S W hW.st.drive.chip)
  rw [hok.dims.1, hok.dims.2.1, hok.dims.2.2] at HSH
  have HCH := hide (fun W (hW : MvAt W B0 A nb pg X) => chip_any hW.st.drive)
  have HND := hide (fun k (hk : k < nb) W (hW : MvAt W B0 A nb pg X) => needed17 k hk W hW)
  have H := hide h
  have HNB := hide hnb
  obtain ⟨pz, hpz⟩ : ∃ z : Int, (pg : Int) - 1 = z := ⟨_, rfl⟩
  have HPZ := hide hpz
  have hpw : wrap64 ((pg : Int) - 1) = pz := by rw [← hpz]; exact wrap_sm17 _ (by omega)
  have HPW := hide (show IntKind.i64.wrap pz = pz from by rw [← hpz]; unfold IntKind.wrap; simp [IntKind.signed, IntKind.bits]; omega)
  clear h hok hpg hpg2 hnb hi hz hs hby
  have hal := (Below.refl w.heap.size w).alloc (Nat.le_refl _) (.cells #[.pointer (some ⟨A.d, 0, none⟩), .pointer (some ⟨A.pp, 0, none⟩), .pointer (some ⟨A.sb, 0, none⟩), .pointer (some ⟨A.mp, 0, none⟩)] 29)
  have X1 := hide (H.out.below hal)
  have T1 := hide (heap_new w (.cells #[.pointer (some ⟨A.d, 0, none⟩), .pointer (some ⟨A.pp, 0, none⟩), .pointer (some ⟨A.sb, 0, none⟩), .pointer (some ⟨A.mp, 0, none⟩)] 29))
  have B1 := hide hal
  clear hal
  go_enter Tryz.func28, Tryz.ntmps28
  go_upto_region 1 with (fail)
  generalize w.alloc (.cells #[.pointer (some ⟨A.d, 0, none⟩), .pointer (some ⟨A.pp, 0, none⟩), .pointer (some ⟨A.sb, 0, none⟩), .pointer (some ⟨A.mp, 0, none⟩)] 29) = w1 at *
  obtain ⟨tb, htb⟩ : ∃ k, w.heap.size = k := ⟨_, rfl⟩
  rw [htb] at T1 ⊢
  have HTB := hide htb
  clear htb H
  have a0 := cell_of_block T1.out 0
  go_wp2_with fail
  refine (HCH.out _ X1.out).mono ?_
  rintro e w2 ⟨rfl, rfl⟩
  go_wp2_with fail
  refine (HSH.out _ X1.out).mono ?_
  rintro e w2 ⟨rfl, hb⟩
  have X2 := hide (X1.out.below hb)
  have T2 := hide ((hb.block _ (heap_lt T1.out)).trans T1.out)
  have B2 := hide (B1.out.trans (hb.mono B1.out.size))
  clear hb a0 X1 T1 B1 HCH HSH
  go_upto_region 2 with (refine rw_store rfl 64 (.tmp 5) (.tmp 11) rfl w2.heap.size rfl #[.int .i64 (nb : Int), .int .i64 (pg : Int), .int .i64 (sz : Int)] rfl _ (heap_new w2 _) (by kernel_rfl) rfl (by simp [Value.oneCell']) ?_)
  have XB := hide (heap_new w2 (.cells #[.int .i64 0, .int .i64 0, .int .i64 0] 64))
  have hal := (Below.refl w2.heap.size w2).alloc (Nat.le_refl _) (.cells #[.int .i64 0, .int .i64 0, .int .i64 0] 64)
  have hbb := setRow_below (hal.trans (Below.refl _ _)) (Nat.le_refl _) hal.size (#[.int .i64 (nb : Int), .int .i64 (pg : Int), .int .i64 (sz : Int)] : Array Value)
  have Q3 := hide (setRow_same (cs := (#[.int .i64 (nb : Int), .int .i64 (pg : Int), .int .i64 (sz : Int)] : Array Value)) XB.out)
  have T3 := hide ((hbb.block _ (heap_lt T2.out)).trans T2.out)
  have X3 := hide (X2.out.below hbb)
  have B3 := hide (B2.out.trans (hbb.mono B2.out.size))
  clear hal hbb XB X2 B2 T2
  generalize (w2.alloc (.cells #[.int .i64 0, .int .i64 0, .int .i64 0] 64)).setRow w2.heap.size (#[.int .i64 (nb : Int), .int .i64 (pg : Int), .int .i64 (sz : Int)] : Array Value) = w3 at *
  generalize w2.heap.size = qb at *
  (try rw [show ∀ (a : Act) (v : Value), a.put none v = a from fun _ _ => rfl])
  have q0 := cell_of_block Q3.out 0
  obtain ⟨wq, hwq⟩ : ∃ wq, wq = w3 := ⟨_, rfl⟩
  subst hwq
  go_wp2_with fail
  clear q0
  go_loopw [6, 14] (fun s i W => ∃ (k : Nat) (a : Option Addr) (cap : Nat), k ≤ nb ∧ i = .int .i64 (k : Int) ∧ s = .slice a (fullK X.M pg k).length cap ∧ W.ownsRow wq.heap.size 3 1 (.slice a (fullK X.M pg k).length cap) (fullK X.M pg k).length ((fullK X.M pg k).map (Value.int .i64)) ∧ Below wq.heap.size wq W) (fun _ i _ => nb - (intOf i).toNat)
  case atStart => exact ⟨0, none, 0, by omega, rfl, rfl, World.ownsRow_nil _ _ _ _, Below.refl _ _⟩
  case round =>
  obtain ⟨k, a, cap, hk, rfl, rfl, ho, hb⟩ := hrel
  have Or := hide ho
  have Br := hide hb
  clear ho hb
  rcases Nat.lt_or_ge k nb with hlt | hge
  · have hkI : (k : Int) < (nb : Int) := by omega
    have hk1 : (k : Int) ≤ 256 := by have := HNB.out; omega
    have HK := hide hlt
    have HFN := hide (show fullK X.M pg (k + 1) = if (pg : Int) - 1 ≤ ((liveN X.M (k : Int) : Nat) : Int) then fullK X.M pg k ++ [(k : Int)] else fullK X.M pg k from rfl)
    have HLL := hide (fullK_le X.M pg k)
    generalize fullK X.M pg k = L at *
    clear hlt hk
    go_upto_region 6 with (fail)
    have O0 := hide (show wr.drew.ownsRow wq.heap.size 3 1 (.slice a L.length cap) L.length (L.map (Value.int .i64)) from Or.out)
    have B0' := hide (show Below wq.heap.size wq wr.drew from Br.out.drew)
    have T0 := hide ((B0'.out.block _ (heap_lt T3.out)).trans T3.out)
    have Q0 := hide ((B0'.out.block _ (heap_lt Q3.out)).trans Q3.out)
    have X0 := hide (X3.out.below B0'.out)
    clear Or Br
    refine wp_region_held_drew (S := (fun W => W.heap[tb]? = some (.cells #[.pointer (some ⟨A.d, 0, none⟩), .pointer (some ⟨A.pp, 0, none⟩), .pointer (some ⟨A.sb, 0, none⟩), .pointer (some ⟨A.mp, 0, none⟩)] 29 (0, 0)) ∧ W.heap[qb]? = some (.cells #[.int .i64 (nb : Int), .int .i64 (pg : Int), .int .i64 (sz : Int)] 64 (0, 0)))) (by kernel_rfl) (⟨T0.out, Q0.out⟩) (fun hHeld => ?_)
    generalize wr.drew = v0 at *
    refine wpAnyH_take (i := 0) (oi := { dst := some 17, op := Op.load 29 (Operand.tmp 2), type := 29, pos := "level.go:46", after := #[], guard := none }) (v := ?_) rfl (by kernel_rfl) (by kernel_rfl) (by kernel_rfl) (fun _ _ _ h => h) (Or.inl ⟨by kernel_rfl, ?_⟩) hHeld ?_
    rotate_left
    · (intro w hSw; (try dsimp only at hSw); have m0 := cell_of_block hSw.1 0; have m1 := cell_of_block hSw.1 1; have m2 := cell_of_block hSw.1 2; have m3 := cell_of_block hSw.1 3; have q1 := cell_of_block hSw.2 1; go_simp); try with_reducible rfl
    try simp only [Act.put, List.setIfInBounds_toArray, List.set_cons_zero, List.set_cons_succ]
    refine wpAnyH_take (i := 1) (oi := { dst := some 18, op := Op.move (Operand.tmp 1), type := 76, pos := "level.go:46", after := #[], guard := none }) (v := ?_) rfl (by kernel_rfl) (by kernel_rfl) (by kernel_rfl) (fun _ _ _ h => h) (Or.inl ⟨by kernel_rfl, ?_⟩) hHeld ?_
    rotate_left
    · (intro w hSw; (try dsimp only at hSw); have m0 := cell_of_block hSw.1 0; have m1 := cell_of_block hSw.1 1; have m2 := cell_of_block hSw.1 2; have m3 := cell_of_block hSw.1 3; have q1 := cell_of_block hSw.2 1; go_simp); try with_reducible rfl
    try simp only [Act.put, List.setIfInBounds_toArray, List.set_cons_zero, List.set_cons_succ]
    refine wpAnyH_take (i := 2) (oi := { dst := some 19, op := Op.move (Operand.tmp 7), type := 3, pos := "level.go:46", after := #[], guard := none }) (v := ?_) rfl (by kernel_rfl) (by kernel_rfl) (by kernel_rfl) (fun _ _ _ h => h) (Or.inl ⟨by kernel_rfl, ?_⟩) hHeld ?_
    rotate_left
    · (intro w hSw; (try dsimp only at hSw); have m0 := cell_of_block hSw.1 0; have m1 := cell_of_block hSw.1 1; have m2 := cell_of_block hSw.1 2; have m3 := cell_of_block hSw.1 3; have q1 := cell_of_block hSw.2 1; go_simp); try with_reducible rfl
    try simp only [Act.put, List.setIfInBounds_toArray, List.set_cons_zero, List.set_cons_succ]
    refine wpAnyH_take (i := 4) (oi := { dst := some 21, op := Op.fieldAddr 64 (Operand.tmp 5) 1, type := 0, pos := "level.go:46", after := #[], guard := none }) (v := ?_) rfl (by kernel_rfl) (by kernel_rfl) (by kernel_rfl) (fun _ _ _ h => h) (Or.inl ⟨by kernel_rfl, ?_⟩) hHeld ?_
    rotate_left
    · (intro w hSw; (try dsimp only at hSw); have m0 := cell_of_block hSw.1 0; have m1 := cell_of_block hSw.1 1; have m2 := cell_of_block hSw.1 2; have m3 := cell_of_block hSw.1 3; have q1 := cell_of_block hSw.2 1; go_simp); try with_reducible rfl
    try simp only [Act.put, List.setIfInBounds_toArray, List.set_cons_zero, List.set_cons_succ]
    refine wpAnyH_take (i := 5) (oi := { dst := some 22, op := Op.load 3 (Operand.tmp 21), type := 3, pos := "level.go:46", after := #[{ on := 4, ground := Ground.data }], guard := none }) (v := ?_) rfl (by kernel_rfl) (by kernel_rfl) (by kernel_rfl) (fun _ _ _ h => h) (Or.inl ⟨by kernel_rfl, ?_⟩) hHeld ?_
    rotate_left
    · (intro w hSw; (try dsimp only at hSw); have m0 := cell_of_block hSw.1 0; have m1 := cell_of_block hSw.1 1; have m2 := cell_of_block hSw.1 2; have m3 := cell_of_block hSw.1 3; have q1 := cell_of_block hSw.2 1; go_simp); try with_reducible rfl
    try simp only [Act.put, List.setIfInBounds_toArray, List.set_cons_zero, List.set_cons_succ]
    refine wpAnyH_take (i := 6) (oi := { dst := some 23, op := Op.binOp BinOp.sub 3 (Operand.tmp 22) (Operand.const (Value.int IntKind.i64 1)) 3, type := 3, pos := "level.go:46", after := #[{ on := 5, ground := Ground.data }], guard := none }) (v := ?_) rfl (by kernel_rfl) (by kernel_rfl) (by kernel_rfl) (fun _ _ _ h => h) (Or.inl ⟨by kernel_rfl, ?_⟩) hHeld ?_
    rotate_left
    · (intro w hSw; (try dsimp only at hSw); have m0 := cell_of_block hSw.1 0; have m1 := cell_of_block hSw.1 1; have m2 := cell_of_block hSw.1 2; have m3 := cell_of_block hSw.1 3; have q1 := cell_of_block hSw.2 1; go_simp); try with_reducible rfl
    try simp only [Act.put, List.setIfInBounds_toArray, List.set_cons_zero, List.set_cons_succ]
    refine wpAnyH_ready (rs := [3]) (by kernel_rfl) (by simp) (AllReadyH.cons (o := { dst := some 20, op := Op.call { callee := Callee.value (Operand.func 58), args := #[Operand.tmp 17, Operand.tmp 18, Operand.tmp 19], argTypes := #[29, 76, 3] }, type := 3, pos := "level.go:46", after := #[{ on := 0, ground := Ground.data }, { on := 1, ground := Ground.data }, { on := 2, ground := Ground.data }], guard := none }) rfl (fun K hK => ?_) AllReadyH.nil)
    have hOld := hide hHeld
    clear hHeld
    go_simp
    refine (HND.out k HK.out _ X0.out).mono ?_
    rintro e v1 ⟨rfl, hb⟩
    have O1 := hide (owns_below O0.out hb)
    have X1 := hide (X0.out.below hb)
    have T1 := hide ((hb.block _ (heap_lt T0.out)).trans T0.out)
    have Q1 := hide ((hb.block _ (heap_lt Q0.out)).trans Q0.out)
    have B1 := hide (B0'.out.trans (hb.mono B0'.out.size))
    clear hb
    (try go_wp2_with fail)
    refine hK.out _ _ (⟨T1.out, Q1.out⟩) (fun hHeld => ?_)
    clear hK K hOld
    try simp only [Act.put, List.setIfInBounds_toArray, List.set_cons_zero, List.set_cons_succ]
    refine wpAnyH_take (i := 7) (oi := { dst := some 24, op := Op.binOp BinOp.geq 3 (Operand.tmp 20) (Operand.tmp 23) 3, type := 4, pos := "level.go:46", after := #[{ on := 3, ground := Ground.data }, { on := 6, ground := Ground.data }], guard := none }) (v := ?_) rfl (by kernel_rfl) (by kernel_rfl) (by kernel_rfl) (fun _ _ _ h => h) (Or.inl ⟨by kernel_rfl, ?_⟩) hHeld ?_
    rotate_left
    · (intro w hSw; (try dsimp only at hSw); have m0 := cell_of_block hSw.1 0; have m1 := cell_of_block hSw.1 1; have m2 := cell_of_block hSw.1 2; have m3 := cell_of_block hSw.1 3; have q1 := cell_of_block hSw.2 1; go_simp); try with_reducible rfl
    try simp only [Act.put, List.setIfInBounds_toArray, List.set_cons_zero, List.set_cons_succ]
    refine wpAnyH_done (by kernel_rfl) ?_ _
    clear hHeld
    rw [HPW.out]
    by_cases hf : (pz : Int) ≤ ((liveN X.M (k : Int) : Nat) : Int)
    · have HN2 := hide (show fullK X.M pg (k + 1) = L ++ [(k : Int)] from by have h := HFN.out; rw [HPZ.out, if_pos hf] at h; exact h)
      have HA := hide (O1.out.alloc (.cells #[.int .i64 (k : Int)] 3))
      have HBA := hide (B1.out.alloc B1.out.size (.cells #[.int .i64 (k : Int)] 3))
      have hw5 : wq.heap.size ≤ (v1.alloc (.cells #[.int .i64 (k : Int)] 3)).heap.size := HBA.out.size
      have HNEW := hide (show ∀ j u, [Value.int .i64 (k : Int)][j]? = some u → (v1.alloc (.cells #[.int .i64 (k : Int)] 3)).cell? ((⟨v1.heap.size, 0, none⟩ : Addr).add j) = some u from new_one17 v1 (.int .i64 (k : Int)) 3)
      have HGE := hide (fun j (h : (Value.slice a L.length cap).ownBlock = some j) => (HA.out.lt j h).1)
      have hll : L.length ≤ 256 := by have := HLL.out; have := HK.out; have := HNB.out; omega
      generalize ((liveN X.M (k : Int) : Nat) : Int) = lv at *
      clear HLL O1 B1 T1 Q1 X1
      go_wp2_with (at_builtin; go_loud (refine wpList_append_own _ rfl _ _ 59 rfl wq.heap.size 3 i0 (.int .i64 0) 1 8 Tryz.underlying59 HI.out HZ0.out HZ1.out HZ2.out rfl (by decide) (.slice a L.length cap) L.length (L.map (Value.int .i64)) rfl HA.out ⟨v1.heap.size, 0, none⟩ 1 1 [.int .i64 (k : Int)] rfl rfl HNEW.out (one_int17 _) (by unfold maxLen; omega) (by omega) hw5 ?_); intro v' w' ho hgr hnil; obtain ⟨a3, c3', rfl⟩ := owns_slice_n ho; have O3 := hide ho; have B3 := hide (HBA.out.grown hgr HBA.out.size HGE.out); clear ho hgr hnil)
      go_roundw
      case rel => exact ⟨k + 1, a3, c3', HK.out, by go_num, by rw [HN2.out]; simp, by rw [HN2.out]; simpa using O3.out, B3.out⟩
      case measure => have := HK.out; simp [intOf]; omega
    · have HN2 := hide (show fullK X.M pg (k + 1) = L from by have h := HFN.out; rw [HPZ.out, if_neg hf] at h; exact h)
      generalize ((liveN X.M (k : Int) : Nat) : Int) = lv at *
      clear HLL T1 Q1 X1
      go_wp2_with fail
      go_roundw
      case rel => exact ⟨k + 1, a, cap, HK.out, by go_num, by rw [HN2.out], by rw [HN2.out]; exact O1.out, B1.out⟩
      case measure => have := HK.out; simp [intOf]; omega
  · obtain rfl : nb = k := by omega
    have HNU := hide (nums_of_owns Or.out)
    clear hk hge
    go_wp2_with fail
    go_ret
    exact ⟨_, rfl, HNU.out, B3.out.trans (Br.out.mono B3.out.size)⟩
/-- what clearing and freeing a block does -/
def Empty17 (B0 : Nat) (A : MvA) (nb pg sz : Nat) (N : Int) (X : MvS) (c : Nat) (w : World) (e : Ending) (w' : World) : Prop :=
  ∃ Y : MvS, e = .returned (.tuple #[.bool true, .int .i64 0]) ∧ HOk nb pg sz (N + 3 * (pg : Int)) Y ∧ Clr pg c pg (shutX X c) Y ∧ MvAt w' B0 A nb pg (freeX Y c) ∧ TurnM B0 A.mo w w'
set_option maxRecDepth 100000 in
set_option maxHeartbeats 4000000 in
theorem empty17 (hok : HOk nb pg sz N X) (hN : N ≤ 700000) (hpg : 2 ≤ pg) (hpg2 : pg ≤ 64) (hnb : nb ≤ 256) (hsz : sz ≤ 1024) (c : Nat) (hc : c < nb) (hu : (X.L.getD c (0, 0)).1 = 2) (hcap : (liveN X.M (c : Int) : Int) ≤ capX pg (shutX X c)) (w : World) (h : MvAt w B0 A nb pg X) :
    Calls Tryz.prog 29 #[.agg #[.pointer (some ⟨A.d, 0, none⟩), .pointer (some ⟨A.pp, 0, none⟩), .pointer (some ⟨A.sb, 0, none⟩), .pointer (some ⟨A.mp, 0, none⟩)], .map none, .int .i64 (c : Int)] w (Empty17 B0 A nb pg sz N X c w) := by
  have HCL := hide (fun W (hW : MvAt W B0 A nb pg X) => clear16 hok hN hpg hpg2 hnb hsz c hc hcap W hW)
  unfold Clear16 at HCL
  have HFR := hide (fun (Y : MvS) (hY : HOk nb pg sz (N + 3 * (pg : Int)) Y) (hC : Clr pg c pg (shutX X c) Y) W (hW : MvAt W B0 A nb pg Y) => free16_ok hY c hc (clr_all hC hY).1 hC.opn (hC.used c (by rw [(shut_same (X := X) c).2.2.2.1]; exact hu)) W hW)
  have H := hide h
  have HSZ := hide h.size
  clear h hok hN hpg hpg2 hnb hsz hc hu hcap
  unfold Empty17
  obtain ⟨cz, hcz⟩ : ∃ z : Int, (c : Int) = z := ⟨_, rfl⟩
  rw [hcz] at HCL HFR ⊢
  clear hcz
  have X1 := hide (H.out.below ((Below.refl w.heap.size w).alloc (Nat.le_refl _) (.cells #[.pointer (some ⟨A.d, 0, none⟩), .pointer (some ⟨A.pp, 0, none⟩), .pointer (some ⟨A.sb, 0, none⟩), .pointer (some ⟨A.mp, 0, none⟩)] 29)))
  have T1 := hide (heap_new w (.cells #[.pointer (some ⟨A.d, 0, none⟩), .pointer (some ⟨A.pp, 0, none⟩), .pointer (some ⟨A.sb, 0, none⟩), .pointer (some ⟨A.mp, 0, none⟩)] 29))
  have B1 := hide (TurnM.of_below (mo := A.mo) ((Below.refl w.heap.size w).alloc (Nat.le_refl _) (.cells #[.pointer (some ⟨A.d, 0, none⟩), .pointer (some ⟨A.pp, 0, none⟩), .pointer (some ⟨A.sb, 0, none⟩), .pointer (some ⟨A.mp, 0, none⟩)] 29)) HSZ.out)
  go_enter Tryz.func29, Tryz.ntmps29
  go_upto_region 1 with (fail)
  generalize w.alloc (.cells #[.pointer (some ⟨A.d, 0, none⟩), .pointer (some ⟨A.pp, 0, none⟩), .pointer (some ⟨A.sb, 0, none⟩), .pointer (some ⟨A.mp, 0, none⟩)] 29) = w1 at *
  generalize w.heap.size = tb at *
  clear H
  go_wp2_with (refine rw_load rfl 29 (.tmp 3) rfl tb rfl 29 #[.pointer (some ⟨A.d, 0, none⟩), .pointer (some ⟨A.pp, 0, none⟩), .pointer (some ⟨A.sb, 0, none⟩), .pointer (some ⟨A.mp, 0, none⟩)] (0, 0) _ T1.out Tryz.underlying29 rfl (by kernel_rfl) ?_)
  refine (HCL.out _ X1.out).mono ?_
  rintro e w2 ⟨Y, rfl, hv, hc, hm, hb⟩
  have X2 := hide hm
  have T2 := hide (hb.keep T1.out (by decide))
  have B2 := hide (B1.out.trans hb)
  have HV := hide (And.intro hv hc)
  clear hm hb hv hc X1 T1 B1 HCL
  go_wp2_with (refine rw_load rfl 29 (.tmp 3) rfl tb rfl 29 #[.pointer (some ⟨A.d, 0, none⟩), .pointer (some ⟨A.pp, 0, none⟩), .pointer (some ⟨A.sb, 0, none⟩), .pointer (some ⟨A.mp, 0, none⟩)] (0, 0) _ T2.out Tryz.underlying29 rfl (by kernel_rfl) ?_)
  refine (HFR.out Y HV.out.1 HV.out.2 _ X2.out).mono ?_
  rintro e w3 ⟨rfl, hm, hb⟩
  have X3 := hide hm
  have B3 := hide (B2.out.trans hb)
  clear hm hb X2 T2 B2 HFR
  go_wp2_with fail
  go_ret2
  exact ⟨Y, rfl, HV.out.1, HV.out.2, X3.out, B3.out⟩
end
end Go.Proofs.YtjfmkfhjbdiojaaGreat

namespace Go.Proofs.YtjfmkfhjbdiojaaGreat
set_option linter.unusedSimpArgs false
set_option linter.unusedVariables false
open Go.RowKit Go.WideShapes Go.ChangeShapes Go.ChangeAt Go.Deep W

set_option maxRecDepth 100000 in
set_option maxHeartbeats 4000000 in
theorem win17_none (v : Value) (mz : Int) (w : World) : Calls Tryz.prog 9 #[.agg #[.pointer none, .pointer none, .pointer none, .pointer none], .map none, v] w fun e w' => e = .returned (.tuple #[.bool false, .int .i64 1]) ∧ Below w.heap.size w w' := by
  have B1 := hide ((Below.refl w.heap.size w).alloc (Nat.le_refl _) (.cells #[.pointer none, .pointer none, .pointer none, .pointer none] 29))
  have T1 := hide (heap_new w (.cells #[.pointer none, .pointer none, .pointer none, .pointer none] 29))
  have HRI := hide (fun W => mright_any none none none none W)
  rw [show mrightB none none none none = false from rfl] at HRI
  go_enter Tryz.func9, Tryz.ntmps9
  go_upto_region 1 with (fail)
  generalize w.alloc (.cells #[.pointer none, .pointer none, .pointer none, .pointer none] 29) = w1 at *
  go_wp2_with (refine rw_load rfl 29 (.tmp 3) rfl w.heap.size rfl 29 #[.pointer none, .pointer none, .pointer none, .pointer none] (0, 0) _ T1.out Tryz.underlying29 rfl (by kernel_rfl) ?_)
  refine (HRI.out _).mono ?_
  rintro e w2 ⟨rfl, hb⟩
  have B2 := hide (B1.out.trans (hb.mono B1.out.size))
  clear hb
  go_wp2_with fail
  go_ret2
  exact ⟨rfl, B2.out⟩
set_option maxRecDepth 100000 in
set_option maxHeartbeats 4000000 in
theorem even17_none (v : Value) (mz : Int) (w : World) : Calls Tryz.prog 16 #[.agg #[.pointer none, .pointer none, .pointer none, .pointer none], .map none, .int .i64 mz, v] w fun e w' => e = .returned (.tuple #[.bool false, .int .i64 1]) ∧ Below w.heap.size w w' := by
  have B1 := hide ((Below.refl w.heap.size w).alloc (Nat.le_refl _) (.cells #[.pointer none, .pointer none, .pointer none, .pointer none] 29))
  have T1 := hide (heap_new w (.cells #[.pointer none, .pointer none, .pointer none, .pointer none] 29))
  have HRI := hide (fun W => mright_any none none none none W)
  rw [show mrightB none none none none = false from rfl] at HRI
  go_enter Tryz.func16, Tryz.ntmps16
  go_upto_region 1 with (fail)
  generalize w.alloc (.cells #[.pointer none, .pointer none, .pointer none, .pointer none] 29) = w1 at *
  go_wp2_with (refine rw_load rfl 29 (.tmp 4) rfl w.heap.size rfl 29 #[.pointer none, .pointer none, .pointer none, .pointer none] (0, 0) _ T1.out Tryz.underlying29 rfl (by kernel_rfl) ?_)
  refine (HRI.out _).mono ?_
  rintro e w2 ⟨rfl, hb⟩
  have B2 := hide (B1.out.trans (hb.mono B1.out.size))
  clear hb
  go_wp2_with fail
  go_ret2
  exact ⟨rfl, B2.out⟩
set_option maxRecDepth 100000 in
set_option maxHeartbeats 8000000 in
theorem win17_no {B0 nb pg sz : Nat} {A : MvA} {X : MvS} {N : Int} (hok : HOk nb pg sz N X) (hN : N ≤ 700000) (hpg : 2 ≤ pg) (hpg2 : pg ≤ 64) (hnb : nb ≤ 256) (sa : Option Addr) (sc : Nat) (sk : List Int) (hsk : sk.length ≤ 1000) (c0 : Int) (hch : chooseZ X.L X.M nb (sk ++ fullK X.M pg nb ++ [X.op]) = (c0, false)) (w : World) (h : MvAt w B0 A nb pg X) (hs : NumsAt w .i64 (.slice sa sk.length sc) sk) : Calls Tryz.prog 9 #[.agg #[.pointer (some ⟨A.d, 0, none⟩), .pointer (some ⟨A.pp, 0, none⟩), .pointer (some ⟨A.sb, 0, none⟩), .pointer (some ⟨A.mp, 0, none⟩)], .map none, .slice sa sk.length sc] w fun e w' => e = .returned (.tuple #[.bool false, .int .i64 0]) ∧ Below w.heap.size w w' := by
  have HFUL := hide (fun W (hW : MvAt W B0 A nb pg X) => lfull17 hok hpg hpg2 hnb W hW)
  have hfl := fullK_le X.M pg nb
  have HPAS := hide (fun fv W (hW : MvAt W B0 A nb pg X) (h1 : NumsAt W .i64 (.slice sa sk.length sc) sk) (h2 : NumsAt W .i64 fv (fullK X.M pg nb)) => passed17 (.slice sa sk.length sc) fv sk (fullK X.M pg nb) (by omega) W hW h1 h2)
  have HCHO := hide (fun pv W (hW : MvAt W B0 A nb pg X) (h1 : NumsAt W .i64 pv (sk ++ fullK X.M pg nb ++ [X.op])) => choose_any A.pp A.pq A.mp A.mq A.mo A.ml X.L (pg : Int) nb X.M pv (sk ++ fullK X.M pg nb ++ [X.op]) (by simp only [List.length_append, List.length_singleton]; unfold maxLen; omega) W hW.st.pool hW.mp h1)
  rw [hch] at HCHO
  dsimp only at HCHO
  clear hch hfl hpg hpg2 hnb hsk
  have H := hide h
  have HS := hide hs
  clear h hs hok
  have hal := (Below.refl w.heap.size w).alloc (Nat.le_refl _) (.cells #[.pointer (some ⟨A.d, 0, none⟩), .pointer (some ⟨A.pp, 0, none⟩), .pointer (some ⟨A.sb, 0, none⟩), .pointer (some ⟨A.mp, 0, none⟩)] 29)
  have X1 := hide (H.out.below hal)
  have T1 := hide (heap_new w (.cells #[.pointer (some ⟨A.d, 0, none⟩), .pointer (some ⟨A.pp, 0, none⟩), .pointer (some ⟨A.sb, 0, none⟩), .pointer (some ⟨A.mp, 0, none⟩)] 29))
  have S1 := hide (HS.out.below hal)
  have B1 := hide hal
  have HRI := hide (fun W => mright_any (some ⟨A.d, 0, none⟩) (some ⟨A.pp, 0, none⟩) (some ⟨A.sb, 0, none⟩) (some ⟨A.mp, 0, none⟩) W)
  clear hal
  go_enter Tryz.func9, Tryz.ntmps9
  go_upto_region 1 with (fail)
  generalize w.alloc (.cells #[.pointer (some ⟨A.d, 0, none⟩), .pointer (some ⟨A.pp, 0, none⟩), .pointer (some ⟨A.sb, 0, none⟩), .pointer (some ⟨A.mp, 0, none⟩)] 29) = w1 at *
  obtain ⟨tb, htb⟩ : ∃ k, w.heap.size = k := ⟨_, rfl⟩
  rw [htb] at T1 ⊢
  have HTB := hide htb
  clear htb H HS
  go_wp2_with (refine rw_load rfl 29 (.tmp 3) rfl tb rfl 29 #[.pointer (some ⟨A.d, 0, none⟩), .pointer (some ⟨A.pp, 0, none⟩), .pointer (some ⟨A.sb, 0, none⟩), .pointer (some ⟨A.mp, 0, none⟩)] (0, 0) _ T1.out Tryz.underlying29 rfl (by kernel_rfl) ?_)
  refine (HRI.out _).mono ?_
  rintro e w2 ⟨rfl, hb⟩
  rw [show mrightB (some ⟨A.d, 0, none⟩) (some ⟨A.pp, 0, none⟩) (some ⟨A.sb, 0, none⟩) (some ⟨A.mp, 0, none⟩) = true from rfl]
  have X2 := hide (X1.out.below hb)
  have T2 := hide ((hb.block _ (heap_lt T1.out)).trans T1.out)
  have S2 := hide (S1.out.below hb)
  have B2 := hide (B1.out.trans (hb.mono B1.out.size))
  clear hb X1 T1 S1 B1 HRI
  go_upto_region 3 with (fail)
  have X0 := hide X2.out.drew
  have T0 := hide (show w2.drew.heap[tb]? = _ from T2.out)
  have S0 := hide (show NumsAt w2.drew .i64 (.slice sa sk.length sc) sk from S2.out.drewN 1)
  have B0' := hide (show Below w.heap.size w w2.drew from B2.out.drew)
  clear X2 T2 S2 B2
  refine wp_region_held_drew (S := (fun W => W.heap[tb]? = some (.cells #[.pointer (some ⟨A.d, 0, none⟩), .pointer (some ⟨A.pp, 0, none⟩), .pointer (some ⟨A.sb, 0, none⟩), .pointer (some ⟨A.mp, 0, none⟩)] 29 (0, 0)))) (by kernel_rfl) (T0.out) (fun hHeld => ?_)
  generalize w2.drew = v0 at *
  refine wpAnyH_take (i := 0) (oi := { dst := some 14, op := Op.fieldAddr 29 (Operand.tmp 3) 1, type := 0, pos := "level.go:17", after := #[], guard := none }) (v := ?_) rfl (by kernel_rfl) (by kernel_rfl) (by kernel_rfl) (fun _ _ _ h => h) (Or.inl ⟨by kernel_rfl, ?_⟩) hHeld ?_
  rotate_left
  · (intro w hSw; (try dsimp only at hSw); have m0 := cell_of_block hSw 0; have m1 := cell_of_block hSw 1; have m2 := cell_of_block hSw 2; have m3 := cell_of_block hSw 3; go_simp); try with_reducible rfl
  try simp only [Act.put, List.setIfInBounds_toArray, List.set_cons_zero, List.set_cons_succ]
  refine wpAnyH_take (i := 1) (oi := { dst := some 15, op := Op.load 25 (Operand.tmp 14), type := 25, pos := "level.go:17", after := #[{ on := 0, ground := Ground.data }], guard := none }) (v := ?_) rfl (by kernel_rfl) (by kernel_rfl) (by kernel_rfl) (fun _ _ _ h => h) (Or.inl ⟨by kernel_rfl, ?_⟩) hHeld ?_
  rotate_left
  · (intro w hSw; (try dsimp only at hSw); have m0 := cell_of_block hSw 0; have m1 := cell_of_block hSw 1; have m2 := cell_of_block hSw 2; have m3 := cell_of_block hSw 3; go_simp); try with_reducible rfl
  try simp only [Act.put, List.setIfInBounds_toArray, List.set_cons_zero, List.set_cons_succ]
  refine wpAnyH_take (i := 2) (oi := { dst := some 16, op := Op.fieldAddr 29 (Operand.tmp 3) 3, type := 0, pos := "level.go:17", after := #[], guard := none }) (v := ?_) rfl (by kernel_rfl) (by kernel_rfl) (by kernel_rfl) (fun _ _ _ h => h) (Or.inl ⟨by kernel_rfl, ?_⟩) hHeld ?_
  rotate_left
  · (intro w hSw; (try dsimp only at hSw); have m0 := cell_of_block hSw 0; have m1 := cell_of_block hSw 1; have m2 := cell_of_block hSw 2; have m3 := cell_of_block hSw 3; go_simp); try with_reducible rfl
  try simp only [Act.put, List.setIfInBounds_toArray, List.set_cons_zero, List.set_cons_succ]
  refine wpAnyH_take (i := 3) (oi := { dst := some 17, op := Op.load 27 (Operand.tmp 16), type := 27, pos := "level.go:17", after := #[{ on := 2, ground := Ground.data }], guard := none }) (v := ?_) rfl (by kernel_rfl) (by kernel_rfl) (by kernel_rfl) (fun _ _ _ h => h) (Or.inl ⟨by kernel_rfl, ?_⟩) hHeld ?_
  rotate_left
  · (intro w hSw; (try dsimp only at hSw); have m0 := cell_of_block hSw 0; have m1 := cell_of_block hSw 1; have m2 := cell_of_block hSw 2; have m3 := cell_of_block hSw 3; go_simp); try with_reducible rfl
  try simp only [Act.put, List.setIfInBounds_toArray, List.set_cons_zero, List.set_cons_succ]
  refine wpAnyH_take (i := 4) (oi := { dst := some 18, op := Op.load 29 (Operand.tmp 3), type := 29, pos := "level.go:17", after := #[], guard := none }) (v := ?_) rfl (by kernel_rfl) (by kernel_rfl) (by kernel_rfl) (fun _ _ _ h => h) (Or.inl ⟨by kernel_rfl, ?_⟩) hHeld ?_
  rotate_left
  · (intro w hSw; (try dsimp only at hSw); have m0 := cell_of_block hSw 0; have m1 := cell_of_block hSw 1; have m2 := cell_of_block hSw 2; have m3 := cell_of_block hSw 3; go_simp); try with_reducible rfl
  try simp only [Act.put, List.setIfInBounds_toArray, List.set_cons_zero, List.set_cons_succ]
  refine wpAnyH_take (i := 5) (oi := { dst := some 19, op := Op.move (Operand.tmp 2), type := 59, pos := "level.go:17", after := #[], guard := none }) (v := ?_) rfl (by kernel_rfl) (by kernel_rfl) (by kernel_rfl) (fun _ _ _ h => h) (Or.inl ⟨by kernel_rfl, ?_⟩) hHeld ?_
  rotate_left
  · (intro w hSw; (try dsimp only at hSw); have m0 := cell_of_block hSw 0; have m1 := cell_of_block hSw 1; have m2 := cell_of_block hSw 2; have m3 := cell_of_block hSw 3; go_simp); try with_reducible rfl
  try simp only [Act.put, List.setIfInBounds_toArray, List.set_cons_zero, List.set_cons_succ]
  refine wpAnyH_take (i := 6) (oi := { dst := some 20, op := Op.load 29 (Operand.tmp 3), type := 29, pos := "level.go:17", after := #[], guard := none }) (v := ?_) rfl (by kernel_rfl) (by kernel_rfl) (by kernel_rfl) (fun _ _ _ h => h) (Or.inl ⟨by kernel_rfl, ?_⟩) hHeld ?_
  rotate_left
  · (intro w hSw; (try dsimp only at hSw); have m0 := cell_of_block hSw 0; have m1 := cell_of_block hSw 1; have m2 := cell_of_block hSw 2; have m3 := cell_of_block hSw 3; go_simp); try with_reducible rfl
  try simp only [Act.put, List.setIfInBounds_toArray, List.set_cons_zero, List.set_cons_succ]
  refine wpAnyH_take (i := 7) (oi := { dst := some 21, op := Op.move (Operand.tmp 1), type := 76, pos := "level.go:17", after := #[], guard := none }) (v := ?_) rfl (by kernel_rfl) (by kernel_rfl) (by kernel_rfl) (fun _ _ _ h => h) (Or.inl ⟨by kernel_rfl, ?_⟩) hHeld ?_
  rotate_left
  · (intro w hSw; (try dsimp only at hSw); have m0 := cell_of_block hSw 0; have m1 := cell_of_block hSw 1; have m2 := cell_of_block hSw 2; have m3 := cell_of_block hSw 3; go_simp); try with_reducible rfl
  try simp only [Act.put, List.setIfInBounds_toArray, List.set_cons_zero, List.set_cons_succ]
  refine wpAnyH_ready (rs := [8]) (by kernel_rfl) (by simp) (AllReadyH.cons (o := { dst := some 22, op := Op.call { callee := Callee.value (Operand.func 28), args := #[Operand.tmp 20, Operand.tmp 21], argTypes := #[29, 76] }, type := 59, pos := "level.go:17", after := #[{ on := 6, ground := Ground.data }, { on := 7, ground := Ground.data }], guard := none }) rfl (fun K hK => ?_) AllReadyH.nil)
  have hOld := hide hHeld
  clear hHeld
  go_simp
  refine (HFUL.out _ X0.out).mono ?_
  rintro e v1 ⟨fv, rfl, hn, hb⟩
  have X1 := hide (X0.out.below hb)
  have T1 := hide ((hb.block _ (heap_lt T0.out)).trans T0.out)
  have S1 := hide (S0.out.below hb)
  have B1 := hide (B0'.out.trans (hb.mono B0'.out.size))
  have F1 := hide hn
  clear hn
  clear hb
  (try go_wp2_with fail)
  refine hK.out _ _ (T1.out) (fun hHeld => ?_)
  clear hK K hOld
  try simp only [Act.put, List.setIfInBounds_toArray, List.set_cons_zero, List.set_cons_succ]
  refine wpAnyH_ready (rs := [9]) (by kernel_rfl) (by simp) (AllReadyH.cons (o := { dst := some 23, op := Op.call { callee := Callee.value (Operand.func 27), args := #[Operand.tmp 18, Operand.tmp 19, Operand.tmp 22], argTypes := #[29, 59, 59] }, type := 59, pos := "level.go:17", after := #[{ on := 4, ground := Ground.data }, { on := 5, ground := Ground.data }, { on := 8, ground := Ground.data }, { on := 8, ground := Ground.chain }], guard := none }) rfl (fun K hK => ?_) AllReadyH.nil)
  have hOld := hide hHeld
  clear hHeld
  go_simp
  refine (HPAS.out fv _ X1.out S1.out F1.out).mono ?_
  rintro e v2 ⟨pv, rfl, hn, hb⟩
  have X2 := hide (X1.out.below hb)
  have T2 := hide ((hb.block _ (heap_lt T1.out)).trans T1.out)
  have S2 := hide (S1.out.below hb)
  have B2 := hide (B1.out.trans (hb.mono B1.out.size))
  have P2 := hide hn
  clear hn
  clear hb
  (try go_wp2_with fail)
  refine hK.out _ _ (T2.out) (fun hHeld => ?_)
  clear hK K hOld
  try simp only [Act.put, List.setIfInBounds_toArray, List.set_cons_zero, List.set_cons_succ]
  refine wpAnyH_ready (rs := [10]) (by kernel_rfl) (by simp) (AllReadyH.cons (o := { dst := some 24, op := Op.call { callee := Callee.value (Operand.func 26), args := #[Operand.tmp 15, Operand.tmp 17, Operand.tmp 23], argTypes := #[25, 27, 59] }, type := 77, pos := "level.go:17", after := #[{ on := 1, ground := Ground.data }, { on := 3, ground := Ground.data }, { on := 9, ground := Ground.data }, { on := 9, ground := Ground.chain }], guard := none }) rfl (fun K hK => ?_) AllReadyH.nil)
  have hOld := hide hHeld
  clear hHeld
  go_simp
  refine (HCHO.out pv _ X2.out P2.out).mono ?_
  rintro e v3 ⟨rfl, hb⟩
  have X3 := hide (X2.out.below hb)
  have T3 := hide ((hb.block _ (heap_lt T2.out)).trans T2.out)
  have S3 := hide (S2.out.below hb)
  have B3 := hide (B2.out.trans (hb.mono B2.out.size))

  clear hb
  (try go_wp2_with fail)
  refine hK.out _ _ (T3.out) (fun hHeld => ?_)
  clear hK K hOld
  try simp only [Act.put, List.setIfInBounds_toArray, List.set_cons_zero, List.set_cons_succ]
  refine wpAnyH_take (i := 11) (oi := { dst := some 13, op := Op.move (Operand.tmp 24), type := 77, pos := "level.go:17", after := #[{ on := 10, ground := Ground.data }], guard := none }) (v := ?_) rfl (by kernel_rfl) (by kernel_rfl) (by kernel_rfl) (fun _ _ _ h => h) (Or.inl ⟨by kernel_rfl, ?_⟩) hHeld ?_
  rotate_left
  · (intro w hSw; (try dsimp only at hSw); have m0 := cell_of_block hSw 0; have m1 := cell_of_block hSw 1; have m2 := cell_of_block hSw 2; have m3 := cell_of_block hSw 3; go_simp); try with_reducible rfl
  try simp only [Act.put, List.setIfInBounds_toArray, List.set_cons_zero, List.set_cons_succ]
  refine wpAnyH_take (i := 12) (oi := { dst := some 25, op := Op.extract (Operand.tmp 13) 0, type := 3, pos := "level.go:17", after := #[{ on := 11, ground := Ground.data }], guard := none }) (v := ?_) rfl (by kernel_rfl) (by kernel_rfl) (by kernel_rfl) (fun _ _ _ h => h) (Or.inl ⟨by kernel_rfl, ?_⟩) hHeld ?_
  rotate_left
  · (intro w hSw; (try dsimp only at hSw); have m0 := cell_of_block hSw 0; have m1 := cell_of_block hSw 1; have m2 := cell_of_block hSw 2; have m3 := cell_of_block hSw 3; go_simp); try with_reducible rfl
  try simp only [Act.put, List.setIfInBounds_toArray, List.set_cons_zero, List.set_cons_succ]
  refine wpAnyH_take (i := 13) (oi := { dst := some 26, op := Op.extract (Operand.tmp 13) 1, type := 4, pos := "level.go:17", after := #[{ on := 11, ground := Ground.data }, { on := 14, ground := Ground.gcOnly Departure.lateStores }], guard := none }) (v := ?_) rfl (by kernel_rfl) (by kernel_rfl) (by kernel_rfl) (fun _ _ _ h => h) (Or.inl ⟨by kernel_rfl, ?_⟩) hHeld ?_
  rotate_left
  · (intro w hSw; (try dsimp only at hSw); have m0 := cell_of_block hSw 0; have m1 := cell_of_block hSw 1; have m2 := cell_of_block hSw 2; have m3 := cell_of_block hSw 3; go_simp); try with_reducible rfl
  try simp only [Act.put, List.setIfInBounds_toArray, List.set_cons_zero, List.set_cons_succ]
  refine wpAnyH_take (i := 14) (oi := { dst := some 8, op := Op.assign (Operand.tmp 25), type := 3, pos := "level.go:17", after := #[{ on := 12, ground := Ground.data }, { on := 10, ground := Ground.chain }, { on := 0, ground := Ground.phase }, { on := 1, ground := Ground.phase }, { on := 2, ground := Ground.phase }, { on := 3, ground := Ground.phase }, { on := 4, ground := Ground.phase }, { on := 5, ground := Ground.phase }, { on := 6, ground := Ground.phase }, { on := 7, ground := Ground.phase }, { on := 8, ground := Ground.phase }, { on := 9, ground := Ground.phase }, { on := 10, ground := Ground.phase }, { on := 11, ground := Ground.phase }, { on := 12, ground := Ground.phase }, { on := 13, ground := Ground.textOnly Departure.lateStores }], guard := none }) (v := ?_) rfl (by kernel_rfl) (by kernel_rfl) (by kernel_rfl) (fun _ _ _ h => h) (Or.inl ⟨by kernel_rfl, ?_⟩) hHeld ?_
  rotate_left
  · (intro w hSw; (try dsimp only at hSw); have m0 := cell_of_block hSw 0; have m1 := cell_of_block hSw 1; have m2 := cell_of_block hSw 2; have m3 := cell_of_block hSw 3; go_simp); try with_reducible rfl
  try simp only [Act.put, List.setIfInBounds_toArray, List.set_cons_zero, List.set_cons_succ]
  refine wpAnyH_take (i := 15) (oi := { dst := some 9, op := Op.assign (Operand.tmp 26), type := 4, pos := "level.go:17", after := #[{ on := 13, ground := Ground.data }, { on := 14, ground := Ground.chain }, { on := 0, ground := Ground.phase }, { on := 1, ground := Ground.phase }, { on := 2, ground := Ground.phase }, { on := 3, ground := Ground.phase }, { on := 4, ground := Ground.phase }, { on := 5, ground := Ground.phase }, { on := 6, ground := Ground.phase }, { on := 7, ground := Ground.phase }, { on := 8, ground := Ground.phase }, { on := 9, ground := Ground.phase }, { on := 10, ground := Ground.phase }, { on := 11, ground := Ground.phase }, { on := 12, ground := Ground.phase }, { on := 13, ground := Ground.phase }, { on := 14, ground := Ground.phase }], guard := none }) (v := ?_) rfl (by kernel_rfl) (by kernel_rfl) (by kernel_rfl) (fun _ _ _ h => h) (Or.inl ⟨by kernel_rfl, ?_⟩) hHeld ?_
  rotate_left
  · (intro w hSw; (try dsimp only at hSw); have m0 := cell_of_block hSw 0; have m1 := cell_of_block hSw 1; have m2 := cell_of_block hSw 2; have m3 := cell_of_block hSw 3; go_simp); try with_reducible rfl
  try simp only [Act.put, List.setIfInBounds_toArray, List.set_cons_zero, List.set_cons_succ]
  refine wpAnyH_done (by kernel_rfl) ?_ _
  clear hHeld
  go_wp2_with fail
  go_ret2
  exact ⟨rfl, B3.out⟩
set_option maxRecDepth 100000 in
set_option maxHeartbeats 8000000 in
theorem win17_yes {B0 nb pg sz : Nat} {A : MvA} {X : MvS} {N : Int} (hok : HOk nb pg sz N X) (hN : N ≤ 700000) (hpg : 2 ≤ pg) (hpg2 : pg ≤ 64) (hnb : nb ≤ 256) (sa : Option Addr) (sc : Nat) (sk : List Int) (hsk : sk.length ≤ 1000) (hsz : sz ≤ 1024) (c : Nat) (hc : c < nb) (hu : (X.L.getD c (0, 0)).1 = 2) (hcap : (liveN X.M (c : Int) : Int) ≤ capX pg (shutX X c)) (hch : chooseZ X.L X.M nb (sk ++ fullK X.M pg nb ++ [X.op]) = ((c : Int), true)) (w : World) (h : MvAt w B0 A nb pg X) (hs : NumsAt w .i64 (.slice sa sk.length sc) sk) : Calls Tryz.prog 9 #[.agg #[.pointer (some ⟨A.d, 0, none⟩), .pointer (some ⟨A.pp, 0, none⟩), .pointer (some ⟨A.sb, 0, none⟩), .pointer (some ⟨A.mp, 0, none⟩)], .map none, .slice sa sk.length sc] w (Empty17 B0 A nb pg sz N X c w) := by
  have HEMP := hide (fun W (hW : MvAt W B0 A nb pg X) => empty17 hok hN hpg hpg2 hnb hsz c hc hu hcap W hW)
  have HSZ := hide h.size
  unfold Empty17 at HEMP
  obtain ⟨cz, hcz⟩ : ∃ z : Int, (c : Int) = z := ⟨_, rfl⟩
  rw [hcz] at HEMP hch
  clear hsz hc hu hcap hcz
  have HFUL := hide (fun W (hW : MvAt W B0 A nb pg X) => lfull17 hok hpg hpg2 hnb W hW)
  have hfl := fullK_le X.M pg nb
  have HPAS := hide (fun fv W (hW : MvAt W B0 A nb pg X) (h1 : NumsAt W .i64 (.slice sa sk.length sc) sk) (h2 : NumsAt W .i64 fv (fullK X.M pg nb)) => passed17 (.slice sa sk.length sc) fv sk (fullK X.M pg nb) (by omega) W hW h1 h2)
  have HCHO := hide (fun pv W (hW : MvAt W B0 A nb pg X) (h1 : NumsAt W .i64 pv (sk ++ fullK X.M pg nb ++ [X.op])) => choose_any A.pp A.pq A.mp A.mq A.mo A.ml X.L (pg : Int) nb X.M pv (sk ++ fullK X.M pg nb ++ [X.op]) (by simp only [List.length_append, List.length_singleton]; unfold maxLen; omega) W hW.st.pool hW.mp h1)
  rw [hch] at HCHO
  dsimp only at HCHO
  clear hch hfl hpg hpg2 hnb hsk
  have H := hide h
  have HS := hide hs
  clear h hs hok
  have hal := (Below.refl w.heap.size w).alloc (Nat.le_refl _) (.cells #[.pointer (some ⟨A.d, 0, none⟩), .pointer (some ⟨A.pp, 0, none⟩), .pointer (some ⟨A.sb, 0, none⟩), .pointer (some ⟨A.mp, 0, none⟩)] 29)
  have X1 := hide (H.out.below hal)
  have T1 := hide (heap_new w (.cells #[.pointer (some ⟨A.d, 0, none⟩), .pointer (some ⟨A.pp, 0, none⟩), .pointer (some ⟨A.sb, 0, none⟩), .pointer (some ⟨A.mp, 0, none⟩)] 29))
  have S1 := hide (HS.out.below hal)
  have B1 := hide hal
  have HRI := hide (fun W => mright_any (some ⟨A.d, 0, none⟩) (some ⟨A.pp, 0, none⟩) (some ⟨A.sb, 0, none⟩) (some ⟨A.mp, 0, none⟩) W)
  clear hal
  go_enter Tryz.func9, Tryz.ntmps9
  go_upto_region 1 with (fail)
  generalize w.alloc (.cells #[.pointer (some ⟨A.d, 0, none⟩), .pointer (some ⟨A.pp, 0, none⟩), .pointer (some ⟨A.sb, 0, none⟩), .pointer (some ⟨A.mp, 0, none⟩)] 29) = w1 at *
  obtain ⟨tb, htb⟩ : ∃ k, w.heap.size = k := ⟨_, rfl⟩
  rw [htb] at T1 ⊢
  have HTB := hide htb
  clear htb H HS
  go_wp2_with (refine rw_load rfl 29 (.tmp 3) rfl tb rfl 29 #[.pointer (some ⟨A.d, 0, none⟩), .pointer (some ⟨A.pp, 0, none⟩), .pointer (some ⟨A.sb, 0, none⟩), .pointer (some ⟨A.mp, 0, none⟩)] (0, 0) _ T1.out Tryz.underlying29 rfl (by kernel_rfl) ?_)
  refine (HRI.out _).mono ?_
  rintro e w2 ⟨rfl, hb⟩
  rw [show mrightB (some ⟨A.d, 0, none⟩) (some ⟨A.pp, 0, none⟩) (some ⟨A.sb, 0, none⟩) (some ⟨A.mp, 0, none⟩) = true from rfl]
  have X2 := hide (X1.out.below hb)
  have T2 := hide ((hb.block _ (heap_lt T1.out)).trans T1.out)
  have S2 := hide (S1.out.below hb)
  have B2 := hide (B1.out.trans (hb.mono B1.out.size))
  clear hb X1 T1 S1 B1 HRI
  go_upto_region 3 with (fail)
  have X0 := hide X2.out.drew
  have T0 := hide (show w2.drew.heap[tb]? = _ from T2.out)
  have S0 := hide (show NumsAt w2.drew .i64 (.slice sa sk.length sc) sk from S2.out.drewN 1)
  have B0' := hide (show Below w.heap.size w w2.drew from B2.out.drew)
  clear X2 T2 S2 B2
  refine wp_region_held_drew (S := (fun W => W.heap[tb]? = some (.cells #[.pointer (some ⟨A.d, 0, none⟩), .pointer (some ⟨A.pp, 0, none⟩), .pointer (some ⟨A.sb, 0, none⟩), .pointer (some ⟨A.mp, 0, none⟩)] 29 (0, 0)))) (by kernel_rfl) (T0.out) (fun hHeld => ?_)
  generalize w2.drew = v0 at *
  refine wpAnyH_take (i := 0) (oi := { dst := some 14, op := Op.fieldAddr 29 (Operand.tmp 3) 1, type := 0, pos := "level.go:17", after := #[], guard := none }) (v := ?_) rfl (by kernel_rfl) (by kernel_rfl) (by kernel_rfl) (fun _ _ _ h => h) (Or.inl ⟨by kernel_rfl, ?_⟩) hHeld ?_
  rotate_left
  · (intro w hSw; (try dsimp only at hSw); have m0 := cell_of_block hSw 0; have m1 := cell_of_block hSw 1; have m2 := cell_of_block hSw 2; have m3 := cell_of_block hSw 3; go_simp); try with_reducible rfl
  try simp only [Act.put, List.setIfInBounds_toArray, List.set_cons_zero, List.set_cons_succ]
  refine wpAnyH_take (i := 1) (oi := { dst := some 15, op := Op.load 25 (Operand.tmp 14), type := 25, pos := "level.go:17", after := #[{ on := 0, ground := Ground.data }], guard := none }) (v := ?_) rfl (by kernel_rfl) (by kernel_rfl) (by kernel_rfl) (fun _ _ _ h => h) (Or.inl ⟨by kernel_rfl, ?_⟩) hHeld ?_
  rotate_left
  · (intro w hSw; (try dsimp only at hSw); have m0 := cell_of_block hSw 0; have m1 := cell_of_block hSw 1; have m2 := cell_of_block hSw 2; have m3 := cell_of_block hSw 3; go_simp); try with_reducible rfl
  try simp only [Act.put, List.setIfInBounds_toArray, List.set_cons_zero, List.set_cons_succ]
  refine wpAnyH_take (i := 2) (oi := { dst := some 16, op := Op.fieldAddr 29 (Operand.tmp 3) 3, type := 0, pos := "level.go:17", after := #[], guard := none }) (v := ?_) rfl (by kernel_rfl) (by kernel_rfl) (by kernel_rfl) (fun _ _ _ h => h) (Or.inl ⟨by kernel_rfl, ?_⟩) hHeld ?_
  rotate_left
  · (intro w hSw; (try dsimp only at hSw); have m0 := cell_of_block hSw 0; have m1 := cell_of_block hSw 1; have m2 := cell_of_block hSw 2; have m3 := cell_of_block hSw 3; go_simp); try with_reducible rfl
  try simp only [Act.put, List.setIfInBounds_toArray, List.set_cons_zero, List.set_cons_succ]
  refine wpAnyH_take (i := 3) (oi := { dst := some 17, op := Op.load 27 (Operand.tmp 16), type := 27, pos := "level.go:17", after := #[{ on := 2, ground := Ground.data }], guard := none }) (v := ?_) rfl (by kernel_rfl) (by kernel_rfl) (by kernel_rfl) (fun _ _ _ h => h) (Or.inl ⟨by kernel_rfl, ?_⟩) hHeld ?_
  rotate_left
  · (intro w hSw; (try dsimp only at hSw); have m0 := cell_of_block hSw 0; have m1 := cell_of_block hSw 1; have m2 := cell_of_block hSw 2; have m3 := cell_of_block hSw 3; go_simp); try with_reducible rfl
  try simp only [Act.put, List.setIfInBounds_toArray, List.set_cons_zero, List.set_cons_succ]
  refine wpAnyH_take (i := 4) (oi := { dst := some 18, op := Op.load 29 (Operand.tmp 3), type := 29, pos := "level.go:17", after := #[], guard := none }) (v := ?_) rfl (by kernel_rfl) (by kernel_rfl) (by kernel_rfl) (fun _ _ _ h => h) (Or.inl ⟨by kernel_rfl, ?_⟩) hHeld ?_
  rotate_left
  · (intro w hSw; (try dsimp only at hSw); have m0 := cell_of_block hSw 0; have m1 := cell_of_block hSw 1; have m2 := cell_of_block hSw 2; have m3 := cell_of_block hSw 3; go_simp); try with_reducible rfl
  try simp only [Act.put, List.setIfInBounds_toArray, List.set_cons_zero, List.set_cons_succ]
  refine wpAnyH_take (i := 5) (oi := { dst := some 19, op := Op.move (Operand.tmp 2), type := 59, pos := "level.go:17", after := #[], guard := none }) (v := ?_) rfl (by kernel_rfl) (by kernel_rfl) (by kernel_rfl) (fun _ _ _ h => h) (Or.inl ⟨by kernel_rfl, ?_⟩) hHeld ?_
  rotate_left
  · (intro w hSw; (try dsimp only at hSw); have m0 := cell_of_block hSw 0; have m1 := cell_of_block hSw 1; have m2 := cell_of_block hSw 2; have m3 := cell_of_block hSw 3; go_simp); try with_reducible rfl
  try simp only [Act.put, List.setIfInBounds_toArray, List.set_cons_zero, List.set_cons_succ]
  refine wpAnyH_take (i := 6) (oi := { dst := some 20, op := Op.load 29 (Operand.tmp 3), type := 29, pos := "level.go:17", after := #[], guard := none }) (v := ?_) rfl (by kernel_rfl) (by kernel_rfl) (by kernel_rfl) (fun _ _ _ h => h) (Or.inl ⟨by kernel_rfl, ?_⟩) hHeld ?_
  rotate_left
  · (intro w hSw; (try dsimp only at hSw); have m0 := cell_of_block hSw 0; have m1 := cell_of_block hSw 1; have m2 := cell_of_block hSw 2; have m3 := cell_of_block hSw 3; go_simp); try with_reducible rfl
  try simp only [Act.put, List.setIfInBounds_toArray, List.set_cons_zero, List.set_cons_succ]
  refine wpAnyH_take (i := 7) (oi := { dst := some 21, op := Op.move (Operand.tmp 1), type := 76, pos := "level.go:17", after := #[], guard := none }) (v := ?_) rfl (by kernel_rfl) (by kernel_rfl) (by kernel_rfl) (fun _ _ _ h => h) (Or.inl ⟨by kernel_rfl, ?_⟩) hHeld ?_
  rotate_left
  · (intro w hSw; (try dsimp only at hSw); have m0 := cell_of_block hSw 0; have m1 := cell_of_block hSw 1; have m2 := cell_of_block hSw 2; have m3 := cell_of_block hSw 3; go_simp); try with_reducible rfl
  try simp only [Act.put, List.setIfInBounds_toArray, List.set_cons_zero, List.set_cons_succ]
  refine wpAnyH_ready (rs := [8]) (by kernel_rfl) (by simp) (AllReadyH.cons (o := { dst := some 22, op := Op.call { callee := Callee.value (Operand.func 28), args := #[Operand.tmp 20, Operand.tmp 21], argTypes := #[29, 76] }, type := 59, pos := "level.go:17", after := #[{ on := 6, ground := Ground.data }, { on := 7, ground := Ground.data }], guard := none }) rfl (fun K hK => ?_) AllReadyH.nil)
  have hOld := hide hHeld
  clear hHeld
  go_simp
  refine (HFUL.out _ X0.out).mono ?_
  rintro e v1 ⟨fv, rfl, hn, hb⟩
  have X1 := hide (X0.out.below hb)
  have T1 := hide ((hb.block _ (heap_lt T0.out)).trans T0.out)
  have S1 := hide (S0.out.below hb)
  have B1 := hide (B0'.out.trans (hb.mono B0'.out.size))
  have F1 := hide hn
  clear hn
  clear hb
  (try go_wp2_with fail)
  refine hK.out _ _ (T1.out) (fun hHeld => ?_)
  clear hK K hOld
  try simp only [Act.put, List.setIfInBounds_toArray, List.set_cons_zero, List.set_cons_succ]
  refine wpAnyH_ready (rs := [9]) (by kernel_rfl) (by simp) (AllReadyH.cons (o := { dst := some 23, op := Op.call { callee := Callee.value (Operand.func 27), args := #[Operand.tmp 18, Operand.tmp 19, Operand.tmp 22], argTypes := #[29, 59, 59] }, type := 59, pos := "level.go:17", after := #[{ on := 4, ground := Ground.data }, { on := 5, ground := Ground.data }, { on := 8, ground := Ground.data }, { on := 8, ground := Ground.chain }], guard := none }) rfl (fun K hK => ?_) AllReadyH.nil)
  have hOld := hide hHeld
  clear hHeld
  go_simp
  refine (HPAS.out fv _ X1.out S1.out F1.out).mono ?_
  rintro e v2 ⟨pv, rfl, hn, hb⟩
  have X2 := hide (X1.out.below hb)
  have T2 := hide ((hb.block _ (heap_lt T1.out)).trans T1.out)
  have S2 := hide (S1.out.below hb)
  have B2 := hide (B1.out.trans (hb.mono B1.out.size))
  have P2 := hide hn
  clear hn
  clear hb
  (try go_wp2_with fail)
  refine hK.out _ _ (T2.out) (fun hHeld => ?_)
  clear hK K hOld
  try simp only [Act.put, List.setIfInBounds_toArray, List.set_cons_zero, List.set_cons_succ]
  refine wpAnyH_ready (rs := [10]) (by kernel_rfl) (by simp) (AllReadyH.cons (o := { dst := some 24, op := Op.call { callee := Callee.value (Operand.func 26), args := #[Operand.tmp 15, Operand.tmp 17, Operand.tmp 23], argTypes := #[25, 27, 59] }, type := 77, pos := "level.go:17", after := #[{ on := 1, ground := Ground.data }, { on := 3, ground := Ground.data }, { on := 9, ground := Ground.data }, { on := 9, ground := Ground.chain }], guard := none }) rfl (fun K hK => ?_) AllReadyH.nil)
  have hOld := hide hHeld
  clear hHeld
  go_simp
  refine (HCHO.out pv _ X2.out P2.out).mono ?_
  rintro e v3 ⟨rfl, hb⟩
  have X3 := hide (X2.out.below hb)
  have T3 := hide ((hb.block _ (heap_lt T2.out)).trans T2.out)
  have S3 := hide (S2.out.below hb)
  have B3 := hide (B2.out.trans (hb.mono B2.out.size))

  clear hb
  (try go_wp2_with fail)
  refine hK.out _ _ (T3.out) (fun hHeld => ?_)
  clear hK K hOld
  try simp only [Act.put, List.setIfInBounds_toArray, List.set_cons_zero, List.set_cons_succ]
  refine wpAnyH_take (i := 11) (oi := { dst := some 13, op := Op.move (Operand.tmp 24), type := 77, pos := "level.go:17", after := #[{ on := 10, ground := Ground.data }], guard := none }) (v := ?_) rfl (by kernel_rfl) (by kernel_rfl) (by kernel_rfl) (fun _ _ _ h => h) (Or.inl ⟨by kernel_rfl, ?_⟩) hHeld ?_
  rotate_left
  · (intro w hSw; (try dsimp only at hSw); have m0 := cell_of_block hSw 0; have m1 := cell_of_block hSw 1; have m2 := cell_of_block hSw 2; have m3 := cell_of_block hSw 3; go_simp); try with_reducible rfl
  try simp only [Act.put, List.setIfInBounds_toArray, List.set_cons_zero, List.set_cons_succ]
  refine wpAnyH_take (i := 12) (oi := { dst := some 25, op := Op.extract (Operand.tmp 13) 0, type := 3, pos := "level.go:17", after := #[{ on := 11, ground := Ground.data }], guard := none }) (v := ?_) rfl (by kernel_rfl) (by kernel_rfl) (by kernel_rfl) (fun _ _ _ h => h) (Or.inl ⟨by kernel_rfl, ?_⟩) hHeld ?_
  rotate_left
  · (intro w hSw; (try dsimp only at hSw); have m0 := cell_of_block hSw 0; have m1 := cell_of_block hSw 1; have m2 := cell_of_block hSw 2; have m3 := cell_of_block hSw 3; go_simp); try with_reducible rfl
  try simp only [Act.put, List.setIfInBounds_toArray, List.set_cons_zero, List.set_cons_succ]
  refine wpAnyH_take (i := 13) (oi := { dst := some 26, op := Op.extract (Operand.tmp 13) 1, type := 4, pos := "level.go:17", after := #[{ on := 11, ground := Ground.data }, { on := 14, ground := Ground.gcOnly Departure.lateStores }], guard := none }) (v := ?_) rfl (by kernel_rfl) (by kernel_rfl) (by kernel_rfl) (fun _ _ _ h => h) (Or.inl ⟨by kernel_rfl, ?_⟩) hHeld ?_
  rotate_left
  · (intro w hSw; (try dsimp only at hSw); have m0 := cell_of_block hSw 0; have m1 := cell_of_block hSw 1; have m2 := cell_of_block hSw 2; have m3 := cell_of_block hSw 3; go_simp); try with_reducible rfl
  try simp only [Act.put, List.setIfInBounds_toArray, List.set_cons_zero, List.set_cons_succ]
  refine wpAnyH_take (i := 14) (oi := { dst := some 8, op := Op.assign (Operand.tmp 25), type := 3, pos := "level.go:17", after := #[{ on := 12, ground := Ground.data }, { on := 10, ground := Ground.chain }, { on := 0, ground := Ground.phase }, { on := 1, ground := Ground.phase }, { on := 2, ground := Ground.phase }, { on := 3, ground := Ground.phase }, { on := 4, ground := Ground.phase }, { on := 5, ground := Ground.phase }, { on := 6, ground := Ground.phase }, { on := 7, ground := Ground.phase }, { on := 8, ground := Ground.phase }, { on := 9, ground := Ground.phase }, { on := 10, ground := Ground.phase }, { on := 11, ground := Ground.phase }, { on := 12, ground := Ground.phase }, { on := 13, ground := Ground.textOnly Departure.lateStores }], guard := none }) (v := ?_) rfl (by kernel_rfl) (by kernel_rfl) (by kernel_rfl) (fun _ _ _ h => h) (Or.inl ⟨by kernel_rfl, ?_⟩) hHeld ?_
  rotate_left
  · (intro w hSw; (try dsimp only at hSw); have m0 := cell_of_block hSw 0; have m1 := cell_of_block hSw 1; have m2 := cell_of_block hSw 2; have m3 := cell_of_block hSw 3; go_simp); try with_reducible rfl
  try simp only [Act.put, List.setIfInBounds_toArray, List.set_cons_zero, List.set_cons_succ]
  refine wpAnyH_take (i := 15) (oi := { dst := some 9, op := Op.assign (Operand.tmp 26), type := 4, pos := "level.go:17", after := #[{ on := 13, ground := Ground.data }, { on := 14, ground := Ground.chain }, { on := 0, ground := Ground.phase }, { on := 1, ground := Ground.phase }, { on := 2, ground := Ground.phase }, { on := 3, ground := Ground.phase }, { on := 4, ground := Ground.phase }, { on := 5, ground := Ground.phase }, { on := 6, ground := Ground.phase }, { on := 7, ground := Ground.phase }, { on := 8, ground := Ground.phase }, { on := 9, ground := Ground.phase }, { on := 10, ground := Ground.phase }, { on := 11, ground := Ground.phase }, { on := 12, ground := Ground.phase }, { on := 13, ground := Ground.phase }, { on := 14, ground := Ground.phase }], guard := none }) (v := ?_) rfl (by kernel_rfl) (by kernel_rfl) (by kernel_rfl) (fun _ _ _ h => h) (Or.inl ⟨by kernel_rfl, ?_⟩) hHeld ?_
  rotate_left
  · (intro w hSw; (try dsimp only at hSw); have m0 := cell_of_block hSw 0; have m1 := cell_of_block hSw 1; have m2 := cell_of_block hSw 2; have m3 := cell_of_block hSw 3; go_simp); try with_reducible rfl
  try simp only [Act.put, List.setIfInBounds_toArray, List.set_cons_zero, List.set_cons_succ]
  refine wpAnyH_done (by kernel_rfl) ?_ _
  clear hHeld
  have HEM := hide (HEMP.out v3 X3.out)
  clear HEMP
  go_wp2_with (refine rw_load rfl 29 (.tmp 3) rfl tb rfl 29 #[.pointer (some ⟨A.d, 0, none⟩), .pointer (some ⟨A.pp, 0, none⟩), .pointer (some ⟨A.sb, 0, none⟩), .pointer (some ⟨A.mp, 0, none⟩)] (0, 0) _ T3.out Tryz.underlying29 rfl (by kernel_rfl) ?_)
  refine HEM.out.mono ?_
  rintro e w5 ⟨Y, rfl, hy, hc, hm, hb⟩
  have HY := hide (show Empty17 B0 A nb pg sz N X c w (.returned (.tuple #[.bool true, .int .i64 0])) w5 from ⟨Y, rfl, hy, hc, hm, (TurnM.of_below B3.out HSZ.out).trans hb⟩)
  clear hy hc hm hb
  go_wp2_with fail
  go_ret2
  exact HY.out
set_option maxRecDepth 100000 in
set_option maxHeartbeats 8000000 in
theorem even17_no {B0 nb pg sz : Nat} {A : MvA} {X : MvS} {N : Int} (hok : HOk nb pg sz N X) (hN : N ≤ 700000) (hpg : 2 ≤ pg) (hpg2 : pg ≤ 64) (hnb : nb ≤ 256) (sa : Option Addr) (sc : Nat) (sk : List Int) (hsk : sk.length ≤ 1000) (lv c0 : Int) (hch : (lv < 1 → c0 = 0) ∧ (1 ≤ lv → coldZ X.L lv (sk ++ [X.op]) = (c0, false))) (w : World) (h : MvAt w B0 A nb pg X) (hs : NumsAt w .i64 (.slice sa sk.length sc) sk) : Calls Tryz.prog 16 #[.agg #[.pointer (some ⟨A.d, 0, none⟩), .pointer (some ⟨A.pp, 0, none⟩), .pointer (some ⟨A.sb, 0, none⟩), .pointer (some ⟨A.mp, 0, none⟩)], .map none, .int .i64 lv, .slice sa sk.length sc] w fun e w' => e = .returned (.tuple #[.bool false, .int .i64 0]) ∧ Below w.heap.size w w' := by
  have HPAS := hide (fun W (hW : MvAt W B0 A nb pg X) (h1 : NumsAt W .i64 (.slice sa sk.length sc) sk) (h2 : NumsAt W .i64 (.slice none 0 0) []) => passed17 (.slice sa sk.length sc) (.slice none 0 0) sk [] (by simp; omega) W hW h1 h2)
  rw [List.append_nil] at HPAS
  have hso : SndOk X.L := fun b => by
    unfold sndZ
    split
    · next hb => have := hok.wear b.toNat (by have := hok.llen; omega); omega
    · omega
  have HCOL := hide (fun pv W (hW : MvAt W B0 A nb pg X) (h1 : NumsAt W .i64 pv (sk ++ [X.op])) => show Calls Tryz.prog 39 #[.pointer (some ⟨A.pp, 0, none⟩), .int .i64 lv, pv] W fun e w' => e = .returned (.tuple #[.int .i64 c0, .bool false]) ∧ Below W.heap.size W w' from by
    have hls : (sk ++ [X.op]).length ≤ maxLen := by simp only [List.length_append, List.length_singleton]; unfold maxLen; omega
    rcases (show lv < 1 ∨ 1 ≤ lv by omega) with hl | hl
    · obtain ⟨a, c, rfl, -⟩ := nums17 h1
      have := hch.1 hl
      rw [this]
      exact cold_no _ lv hl a _ c W
    · have := cold_any A.pp A.pq X.L hso lv hl pv (sk ++ [X.op]) hls W hW.st.pool h1
      rw [hch.2 hl] at this
      exact this)
  clear hch hso hpg hpg2 hnb hsk hN
  have H := hide h
  have HS := hide hs
  clear h hs hok
  have hal := (Below.refl w.heap.size w).alloc (Nat.le_refl _) (.cells #[.pointer (some ⟨A.d, 0, none⟩), .pointer (some ⟨A.pp, 0, none⟩), .pointer (some ⟨A.sb, 0, none⟩), .pointer (some ⟨A.mp, 0, none⟩)] 29)
  have X1 := hide (H.out.below hal)
  have T1 := hide (heap_new w (.cells #[.pointer (some ⟨A.d, 0, none⟩), .pointer (some ⟨A.pp, 0, none⟩), .pointer (some ⟨A.sb, 0, none⟩), .pointer (some ⟨A.mp, 0, none⟩)] 29))
  have S1 := hide (HS.out.below hal)
  have B1 := hide hal
  have HRI := hide (fun W => mright_any (some ⟨A.d, 0, none⟩) (some ⟨A.pp, 0, none⟩) (some ⟨A.sb, 0, none⟩) (some ⟨A.mp, 0, none⟩) W)
  clear hal
  go_enter Tryz.func16, Tryz.ntmps16
  go_upto_region 1 with (fail)
  generalize w.alloc (.cells #[.pointer (some ⟨A.d, 0, none⟩), .pointer (some ⟨A.pp, 0, none⟩), .pointer (some ⟨A.sb, 0, none⟩), .pointer (some ⟨A.mp, 0, none⟩)] 29) = w1 at *
  obtain ⟨tb, htb⟩ : ∃ k, w.heap.size = k := ⟨_, rfl⟩
  rw [htb] at T1 ⊢
  have HTB := hide htb
  clear htb H HS
  go_wp2_with (refine rw_load rfl 29 (.tmp 4) rfl tb rfl 29 #[.pointer (some ⟨A.d, 0, none⟩), .pointer (some ⟨A.pp, 0, none⟩), .pointer (some ⟨A.sb, 0, none⟩), .pointer (some ⟨A.mp, 0, none⟩)] (0, 0) _ T1.out Tryz.underlying29 rfl (by kernel_rfl) ?_)
  refine (HRI.out _).mono ?_
  rintro e w2 ⟨rfl, hb⟩
  rw [show mrightB (some ⟨A.d, 0, none⟩) (some ⟨A.pp, 0, none⟩) (some ⟨A.sb, 0, none⟩) (some ⟨A.mp, 0, none⟩) = true from rfl]
  have X2 := hide (X1.out.below hb)
  have T2 := hide ((hb.block _ (heap_lt T1.out)).trans T1.out)
  have S2 := hide (S1.out.below hb)
  have B2 := hide (B1.out.trans (hb.mono B1.out.size))
  clear hb X1 T1 S1 B1 HRI
  go_upto_region 3 with (fail)
  have X0 := hide X2.out.drew
  have T0 := hide (show w2.drew.heap[tb]? = _ from T2.out)
  have S0 := hide (show NumsAt w2.drew .i64 (.slice sa sk.length sc) sk from S2.out.drewN 1)
  have B0' := hide (show Below w.heap.size w w2.drew from B2.out.drew)
  clear X2 T2 S2 B2
  refine wp_region_held_drew (S := (fun W => W.heap[tb]? = some (.cells #[.pointer (some ⟨A.d, 0, none⟩), .pointer (some ⟨A.pp, 0, none⟩), .pointer (some ⟨A.sb, 0, none⟩), .pointer (some ⟨A.mp, 0, none⟩)] 29 (0, 0)))) (by kernel_rfl) (T0.out) (fun hHeld => ?_)
  generalize w2.drew = v0 at *
  refine wpAnyH_take (i := 0) (oi := { dst := some 16, op := Op.fieldAddr 29 (Operand.tmp 4) 1, type := 0, pos := "level.go:29", after := #[], guard := none }) (v := ?_) rfl (by kernel_rfl) (by kernel_rfl) (by kernel_rfl) (fun _ _ _ h => h) (Or.inl ⟨by kernel_rfl, ?_⟩) hHeld ?_
  rotate_left
  · (intro w hSw; (try dsimp only at hSw); have m0 := cell_of_block hSw 0; have m1 := cell_of_block hSw 1; have m2 := cell_of_block hSw 2; have m3 := cell_of_block hSw 3; go_simp); try with_reducible rfl
  try simp only [Act.put, List.setIfInBounds_toArray, List.set_cons_zero, List.set_cons_succ]
  refine wpAnyH_take (i := 1) (oi := { dst := some 17, op := Op.load 25 (Operand.tmp 16), type := 25, pos := "level.go:29", after := #[{ on := 0, ground := Ground.data }], guard := none }) (v := ?_) rfl (by kernel_rfl) (by kernel_rfl) (by kernel_rfl) (fun _ _ _ h => h) (Or.inl ⟨by kernel_rfl, ?_⟩) hHeld ?_
  rotate_left
  · (intro w hSw; (try dsimp only at hSw); have m0 := cell_of_block hSw 0; have m1 := cell_of_block hSw 1; have m2 := cell_of_block hSw 2; have m3 := cell_of_block hSw 3; go_simp); try with_reducible rfl
  try simp only [Act.put, List.setIfInBounds_toArray, List.set_cons_zero, List.set_cons_succ]
  refine wpAnyH_take (i := 2) (oi := { dst := some 18, op := Op.move (Operand.tmp 2), type := 3, pos := "level.go:29", after := #[], guard := none }) (v := ?_) rfl (by kernel_rfl) (by kernel_rfl) (by kernel_rfl) (fun _ _ _ h => h) (Or.inl ⟨by kernel_rfl, ?_⟩) hHeld ?_
  rotate_left
  · (intro w hSw; (try dsimp only at hSw); have m0 := cell_of_block hSw 0; have m1 := cell_of_block hSw 1; have m2 := cell_of_block hSw 2; have m3 := cell_of_block hSw 3; go_simp); try with_reducible rfl
  try simp only [Act.put, List.setIfInBounds_toArray, List.set_cons_zero, List.set_cons_succ]
  refine wpAnyH_take (i := 3) (oi := { dst := some 19, op := Op.load 29 (Operand.tmp 4), type := 29, pos := "level.go:29", after := #[], guard := none }) (v := ?_) rfl (by kernel_rfl) (by kernel_rfl) (by kernel_rfl) (fun _ _ _ h => h) (Or.inl ⟨by kernel_rfl, ?_⟩) hHeld ?_
  rotate_left
  · (intro w hSw; (try dsimp only at hSw); have m0 := cell_of_block hSw 0; have m1 := cell_of_block hSw 1; have m2 := cell_of_block hSw 2; have m3 := cell_of_block hSw 3; go_simp); try with_reducible rfl
  try simp only [Act.put, List.setIfInBounds_toArray, List.set_cons_zero, List.set_cons_succ]
  refine wpAnyH_take (i := 4) (oi := { dst := some 20, op := Op.move (Operand.tmp 3), type := 59, pos := "level.go:29", after := #[], guard := none }) (v := ?_) rfl (by kernel_rfl) (by kernel_rfl) (by kernel_rfl) (fun _ _ _ h => h) (Or.inl ⟨by kernel_rfl, ?_⟩) hHeld ?_
  rotate_left
  · (intro w hSw; (try dsimp only at hSw); have m0 := cell_of_block hSw 0; have m1 := cell_of_block hSw 1; have m2 := cell_of_block hSw 2; have m3 := cell_of_block hSw 3; go_simp); try with_reducible rfl
  try simp only [Act.put, List.setIfInBounds_toArray, List.set_cons_zero, List.set_cons_succ]
  refine wpAnyH_ready (rs := [5]) (by kernel_rfl) (by simp) (AllReadyH.cons (o := { dst := some 21, op := Op.call { callee := Callee.value (Operand.func 27), args := #[Operand.tmp 19, Operand.tmp 20, Operand.const (Value.slice none 0 0)], argTypes := #[29, 59, 59] }, type := 59, pos := "level.go:29", after := #[{ on := 3, ground := Ground.data }, { on := 4, ground := Ground.data }], guard := none }) rfl (fun K hK => ?_) AllReadyH.nil)
  have hOld := hide hHeld
  clear hHeld
  go_simp
  refine (HPAS.out _ X0.out S0.out (.inl ⟨rfl, rfl⟩)).mono ?_
  rintro e v1 ⟨pv, rfl, hn, hb⟩
  have X1 := hide (X0.out.below hb)
  have T1 := hide ((hb.block _ (heap_lt T0.out)).trans T0.out)
  have S1 := hide (S0.out.below hb)
  have B1 := hide (B0'.out.trans (hb.mono B0'.out.size))
  have P1 := hide hn
  clear hn
  clear hb
  (try go_wp2_with fail)
  refine hK.out _ _ (T1.out) (fun hHeld => ?_)
  clear hK K hOld
  try simp only [Act.put, List.setIfInBounds_toArray, List.set_cons_zero, List.set_cons_succ]
  refine wpAnyH_ready (rs := [6]) (by kernel_rfl) (by simp) (AllReadyH.cons (o := { dst := some 22, op := Op.call { callee := Callee.value (Operand.func 39), args := #[Operand.tmp 17, Operand.tmp 18, Operand.tmp 21], argTypes := #[25, 3, 59] }, type := 77, pos := "level.go:29", after := #[{ on := 1, ground := Ground.data }, { on := 2, ground := Ground.data }, { on := 5, ground := Ground.data }, { on := 5, ground := Ground.chain }], guard := none }) rfl (fun K hK => ?_) AllReadyH.nil)
  have hOld := hide hHeld
  clear hHeld
  go_simp
  refine (HCOL.out pv _ X1.out P1.out).mono ?_
  rintro e v2 ⟨rfl, hb⟩
  have X2 := hide (X1.out.below hb)
  have T2 := hide ((hb.block _ (heap_lt T1.out)).trans T1.out)
  have S2 := hide (S1.out.below hb)
  have B2 := hide (B1.out.trans (hb.mono B1.out.size))

  clear hb
  (try go_wp2_with fail)
  refine hK.out _ _ (T2.out) (fun hHeld => ?_)
  clear hK K hOld
  try simp only [Act.put, List.setIfInBounds_toArray, List.set_cons_zero, List.set_cons_succ]
  refine wpAnyH_take (i := 7) (oi := { dst := some 15, op := Op.move (Operand.tmp 22), type := 77, pos := "level.go:29", after := #[{ on := 6, ground := Ground.data }], guard := none }) (v := ?_) rfl (by kernel_rfl) (by kernel_rfl) (by kernel_rfl) (fun _ _ _ h => h) (Or.inl ⟨by kernel_rfl, ?_⟩) hHeld ?_
  rotate_left
  · (intro w hSw; (try dsimp only at hSw); have m0 := cell_of_block hSw 0; have m1 := cell_of_block hSw 1; have m2 := cell_of_block hSw 2; have m3 := cell_of_block hSw 3; go_simp); try with_reducible rfl
  try simp only [Act.put, List.setIfInBounds_toArray, List.set_cons_zero, List.set_cons_succ]
  refine wpAnyH_take (i := 8) (oi := { dst := some 23, op := Op.extract (Operand.tmp 15) 0, type := 3, pos := "level.go:29", after := #[{ on := 7, ground := Ground.data }], guard := none }) (v := ?_) rfl (by kernel_rfl) (by kernel_rfl) (by kernel_rfl) (fun _ _ _ h => h) (Or.inl ⟨by kernel_rfl, ?_⟩) hHeld ?_
  rotate_left
  · (intro w hSw; (try dsimp only at hSw); have m0 := cell_of_block hSw 0; have m1 := cell_of_block hSw 1; have m2 := cell_of_block hSw 2; have m3 := cell_of_block hSw 3; go_simp); try with_reducible rfl
  try simp only [Act.put, List.setIfInBounds_toArray, List.set_cons_zero, List.set_cons_succ]
  refine wpAnyH_take (i := 9) (oi := { dst := some 24, op := Op.extract (Operand.tmp 15) 1, type := 4, pos := "level.go:29", after := #[{ on := 7, ground := Ground.data }, { on := 10, ground := Ground.gcOnly Departure.lateStores }], guard := none }) (v := ?_) rfl (by kernel_rfl) (by kernel_rfl) (by kernel_rfl) (fun _ _ _ h => h) (Or.inl ⟨by kernel_rfl, ?_⟩) hHeld ?_
  rotate_left
  · (intro w hSw; (try dsimp only at hSw); have m0 := cell_of_block hSw 0; have m1 := cell_of_block hSw 1; have m2 := cell_of_block hSw 2; have m3 := cell_of_block hSw 3; go_simp); try with_reducible rfl
  try simp only [Act.put, List.setIfInBounds_toArray, List.set_cons_zero, List.set_cons_succ]
  refine wpAnyH_take (i := 10) (oi := { dst := some 10, op := Op.assign (Operand.tmp 23), type := 3, pos := "level.go:29", after := #[{ on := 8, ground := Ground.data }, { on := 6, ground := Ground.chain }, { on := 0, ground := Ground.phase }, { on := 1, ground := Ground.phase }, { on := 2, ground := Ground.phase }, { on := 3, ground := Ground.phase }, { on := 4, ground := Ground.phase }, { on := 5, ground := Ground.phase }, { on := 6, ground := Ground.phase }, { on := 7, ground := Ground.phase }, { on := 8, ground := Ground.phase }, { on := 9, ground := Ground.textOnly Departure.lateStores }], guard := none }) (v := ?_) rfl (by kernel_rfl) (by kernel_rfl) (by kernel_rfl) (fun _ _ _ h => h) (Or.inl ⟨by kernel_rfl, ?_⟩) hHeld ?_
  rotate_left
  · (intro w hSw; (try dsimp only at hSw); have m0 := cell_of_block hSw 0; have m1 := cell_of_block hSw 1; have m2 := cell_of_block hSw 2; have m3 := cell_of_block hSw 3; go_simp); try with_reducible rfl
  try simp only [Act.put, List.setIfInBounds_toArray, List.set_cons_zero, List.set_cons_succ]
  refine wpAnyH_take (i := 11) (oi := { dst := some 11, op := Op.assign (Operand.tmp 24), type := 4, pos := "level.go:29", after := #[{ on := 9, ground := Ground.data }, { on := 10, ground := Ground.chain }, { on := 0, ground := Ground.phase }, { on := 1, ground := Ground.phase }, { on := 2, ground := Ground.phase }, { on := 3, ground := Ground.phase }, { on := 4, ground := Ground.phase }, { on := 5, ground := Ground.phase }, { on := 6, ground := Ground.phase }, { on := 7, ground := Ground.phase }, { on := 8, ground := Ground.phase }, { on := 9, ground := Ground.phase }, { on := 10, ground := Ground.phase }], guard := none }) (v := ?_) rfl (by kernel_rfl) (by kernel_rfl) (by kernel_rfl) (fun _ _ _ h => h) (Or.inl ⟨by kernel_rfl, ?_⟩) hHeld ?_
  rotate_left
  · (intro w hSw; (try dsimp only at hSw); have m0 := cell_of_block hSw 0; have m1 := cell_of_block hSw 1; have m2 := cell_of_block hSw 2; have m3 := cell_of_block hSw 3; go_simp); try with_reducible rfl
  try simp only [Act.put, List.setIfInBounds_toArray, List.set_cons_zero, List.set_cons_succ]
  refine wpAnyH_done (by kernel_rfl) ?_ _
  clear hHeld
  go_wp2_with fail
  go_ret2
  exact ⟨rfl, B2.out⟩
end Go.Proofs.YtjfmkfhjbdiojaaGreat
