/-
  Layer 25: Get, List.
-/
import Derived.Test.YtbnbfnlfgmlcgaaSale4
--import Derived.Test.Zdbg
namespace Go.Proofs.Ytbnbfnlfgmlcgaa
set_option linter.unusedSimpArgs false
set_option linter.unusedVariables false
open Go.RowKit Go.WideShapes Go.ChangeShapes Go.ChangeAt Go.Deep

def GetIs (T : List TxA) (next n : Int) (w : World) (e : Ending) (w' : World) : Prop :=
  (findT T.length next n = none ∧ e = .returned (.tuple #[txV ta0, .bool false]) ∧ Below w.heap.size w w') ∨
  (∃ i a c, findT T.length next n = some i ∧ i < T.length ∧ e = .returned (.tuple #[txV ⟨(T.getD i ta0).t, a, c⟩, .bool true]) ∧ LnT w' a (T.getD i ta0).t.L ∧ Below w.heap.size w w')
set_option maxRecDepth 100000 in
set_option maxHeartbeats 1000000 in
theorem slget_any (B p : Nat) (keep next : Int) (v : Value) (T : List TxA) (n : Int) (hn : inR n) (w : World) (h : RegAt w B p keep next v T) :
    Calls Try.prog 18 #[.pointer (some ⟨p, 0, none⟩), .int .i64 n] w (GetIs T next n w) := by
  obtain ⟨o1, ho1⟩ : ∃ ob, ob = (Obj.cells #[.int .i64 0, .int .u8 0, .int .i64 0, .int .i64 0, .int .i64 0, .int .i64 0, .bool false, .slice none 0 0] 35) := ⟨_, rfl⟩
  have hal := (Below.refl w.heap.size w).alloc (Nat.le_refl _) o1
  have X := hide (show (w.alloc o1).heap[w.heap.size]? = some (.cells #[.int .i64 0, .int .u8 0, .int .i64 0, .int .i64 0, .int .i64 0, .int .i64 0, .bool false, .slice none 0 0] 35 (0, 0)) by rw [heap_new, ho1])
  have RG := hide (h.below hal)
  have BW := hide hal
  clear hal h
  cases hf : findT T.length next n with
  | none =>
    have HF := hide (slfind_none B p keep next v T n hn hf _ RG.out)
    have HFT := hide hf
    clear hf
    go_enter Try.func18, Try.ntmps18
    go_upto_region 1 with (fail)
    rw [← ho1]
    generalize w.alloc o1 = w1 at *
    clear ho1 o1
    go_wp2_with fail
    refine HF.out.mono ?_
    rintro e w3 ⟨rfl, m, rfl⟩
    have X3 := hide (show (w1.drewN m).heap[w.heap.size]? = _ from X.out)
    have B3 := hide (below_dn BW.out m)
    clear X BW HF RG
    generalize w1.drewN m = w3 at *
    have HXI := hide (tx_info ta0)
    have HXA := hide (txC_all ta0)
    have hbd : ∀ W, (Instr.build 35 #[]).run Try.prog W = .ok (.agg (txC ta0).toArray) W := fun W => by kernel_rfl
    go_wp2_with (refine rw_store rfl 35 (.tmp 4) (.tmp 12) rfl w.heap.size rfl (txC ta0).toArray rfl _ X3.out HXI.out rfl HXA.out ?_)
    have Y := hide (setRow_same (cs := (txC ta0).toArray) X3.out)
    have B4 := hide (setRow_below B3.out (Nat.le_refl _) B3.out.size (txC ta0).toArray)
    generalize w3.setRow w.heap.size (txC ta0).toArray = w4 at *
    have z0 := cell_of_block Y.out 0
    have z1 := cell_of_block Y.out 1
    have z2 := cell_of_block Y.out 2
    have z3 := cell_of_block Y.out 3
    have z4 := cell_of_block Y.out 4
    have z5 := cell_of_block Y.out 5
    have z6 := cell_of_block Y.out 6
    have z7 := cell_of_block Y.out 7
    refine bodyPost_ret (v := .tuple #[txV ta0, .bool false]) ?_ rfl (.inl ⟨HFT.out, rfl, B4.out⟩)
    unfold txV
    unfold txC at *
    simp [results, Try.results18, go_sem, z0, z1, z2, z3, z4, z5, z6, z7]
  | some i =>
    obtain ⟨hi, -⟩ := findT_lt hf
    obtain ⟨a, cap, rfl⟩ := RG.out.row.split
    obtain ⟨g, o, rfl, hg1, hg2, hcell, hfz⟩ := OffRow.rows txC txC_length ta0 RG.out.row rfl (by decide) i hi
    have HF := hide (slfind_some B p keep next g o cap T n i hf _ RG.out)
    have HFT := hide hf
    have HLN := hide (RG.out.lines (T.getD i ta0) (by simp [List.getD, hi]))
    have HFW := hide (show (T.getD i ta0).t.L.length ≤ 1000 from (RG.out.ok _ (List.mem_map.2 ⟨_, (show T.getD i ta0 ∈ T by simp [List.getD, hi]), rfl⟩)).1.few)
    have HC := hide (fun j hj => hcell j hj)
    clear hf hfz hcell hg1
    go_enter Try.func18, Try.ntmps18
    go_upto_region 1 with (fail)
    rw [← ho1]
    generalize w.alloc o1 = w1 at *
    clear ho1 o1
    go_wp2_with fail
    refine HF.out.mono ?_
    rintro e w3 ⟨rfl, m, rfl⟩
    have X3 := hide (show (w1.drewN m).heap[w.heap.size]? = _ from X.out)
    have B3 := hide (below_dn BW.out m)
    have HL3 := hide (HLN.out.drewN m)
    have HC3 := hide (show ∀ j, j < 8 → (w1.drewN m).cell? ⟨g, o + i * 8 + j, none⟩ = (txC (T.getD i ta0))[j]? from fun j hj => HC.out j hj)
    clear X BW HF RG HC HLN
    generalize w1.drewN m = w3 at *
    have HCP := hide (copied_any (T.getD i ta0) HFW.out w3 HL3.out.lnIn)
    generalize hy : T.getD i ta0 = y at *
    have HY := hide hy
    clear hy
    unfold CopiedT txV txC at HCP
    have c0 : w3.cell? ⟨g, o + i * 8, none⟩ = some (.int .i64 y.t.num) := HC3.out 0 (by decide)
    have c1 : w3.cell? ⟨g, o + i * 8 + 1, none⟩ = some (.int .u8 y.t.kind) := HC3.out 1 (by decide)
    have c2 : w3.cell? ⟨g, o + i * 8 + 2, none⟩ = some (.int .i64 y.t.shift) := HC3.out 2 (by decide)
    have c3 : w3.cell? ⟨g, o + i * 8 + 3, none⟩ = some (.int .i64 y.t.ref) := HC3.out 3 (by decide)
    have c4 : w3.cell? ⟨g, o + i * 8 + 4, none⟩ = some (.int .i64 y.t.amt) := HC3.out 4 (by decide)
    have c5 : w3.cell? ⟨g, o + i * 8 + 5, none⟩ = some (.int .i64 y.t.left) := HC3.out 5 (by decide)
    have c6 : w3.cell? ⟨g, o + i * 8 + 6, none⟩ = some (.bool y.t.void) := HC3.out 6 (by decide)
    have c7 : w3.cell? ⟨g, o + i * 8 + 7, none⟩ = some (.slice y.la y.t.L.length y.lc) := HC3.out 7 (by decide)
    go_wp2_with fail
    refine HCP.out.mono ?_
    rintro e w5 ⟨a3, c8, rfl, hln, hb⟩
    have X5 := hide ((hb.block _ (heap_lt X3.out)).trans X3.out)
    have L5 := hide hln
    have B5 := hide (B3.out.trans (hb.mono B3.out.size))
    clear hb hln HCP c0 c1 c2 c3 c4 c5 c6 c7 HC3 HL3 X3 B3
    have HXI := hide (tx_info ⟨y.t, a3, c8⟩)
    have HXA := hide (txC_all ⟨y.t, a3, c8⟩)
    unfold txC at HXI HXA
    go_wp2_with (refine rw_store rfl 35 (.tmp 4) (.tmp 16) rfl w.heap.size rfl #[.int .i64 y.t.num, .int .u8 y.t.kind, .int .i64 y.t.shift, .int .i64 y.t.ref, .int .i64 y.t.amt, .int .i64 y.t.left, .bool y.t.void, .slice a3 y.t.L.length c8] rfl _ X5.out HXI.out rfl HXA.out ?_)
    have Y := hide (setRow_same (cs := #[.int .i64 y.t.num, .int .u8 y.t.kind, .int .i64 y.t.shift, .int .i64 y.t.ref, .int .i64 y.t.amt, .int .i64 y.t.left, .bool y.t.void, .slice a3 y.t.L.length c8]) X5.out)
    have B6 := hide (setRow_below B5.out (Nat.le_refl _) B5.out.size #[.int .i64 y.t.num, .int .u8 y.t.kind, .int .i64 y.t.shift, .int .i64 y.t.ref, .int .i64 y.t.amt, .int .i64 y.t.left, .bool y.t.void, .slice a3 y.t.L.length c8])
    have L6 := hide (L5.out.keepsT (setRow_keeps (Ts := SaleTs) X5.out (by decide) #[.int .i64 y.t.num, .int .u8 y.t.kind, .int .i64 y.t.shift, .int .i64 y.t.ref, .int .i64 y.t.amt, .int .i64 y.t.left, .bool y.t.void, .slice a3 y.t.L.length c8]) (by decide))
    generalize w5.setRow w.heap.size #[.int .i64 y.t.num, .int .u8 y.t.kind, .int .i64 y.t.shift, .int .i64 y.t.ref, .int .i64 y.t.amt, .int .i64 y.t.left, .bool y.t.void, .slice a3 y.t.L.length c8] = w6 at *
    have z0 := cell_of_block Y.out 0
    have z1 := cell_of_block Y.out 1
    have z2 := cell_of_block Y.out 2
    have z3 := cell_of_block Y.out 3
    have z4 := cell_of_block Y.out 4
    have z5 := cell_of_block Y.out 5
    have z6 := cell_of_block Y.out 6
    have z7 := cell_of_block Y.out 7
    refine bodyPost_ret (v := .tuple #[.agg #[.int .i64 y.t.num, .int .u8 y.t.kind, .int .i64 y.t.shift, .int .i64 y.t.ref, .int .i64 y.t.amt, .int .i64 y.t.left, .bool y.t.void, .slice a3 y.t.L.length c8], .bool true]) ?_ rfl (.inr ⟨i, a3, c8, HFT.out, hi, by rw [HY.out]; rfl, by rw [HY.out]; exact L6.out, B6.out⟩)
    simp [results, Try.results18, go_sem, z0, z1, z2, z3, z4, z5, z6, z7]
def ListT (T : List TxA) (w : World) (e : Ending) (w' : World) : Prop := ∃ (T' : List TxA) (a : Option Addr) (c : Nat), T'.map (·.t) = T.map (·.t) ∧ e = .returned (.slice a T.length c) ∧ w'.ownsRow w.heap.size 35 8 (.slice a T.length c) T.length (T'.flatMap txC) ∧ (∀ y ∈ T', LnT w' y.la y.t.L) ∧ Below w.heap.size w w'
set_option maxRecDepth 100000 in
set_option maxHeartbeats 1000000 in
theorem sllist_any (B p : Nat) (keep next : Int) (v : Value) (T : List TxA) (w : World) (h : RegAt w B p keep next v T) :
    Calls Try.prog 21 #[.pointer (some ⟨p, 0, none⟩)] w (ListT T w) := by
  obtain ⟨i0, hi, hz0, hz1, hz2⟩ := info_parts (show (Try.prog.info? 35).map (fun i => (i.zero, i.size, i.bytes)) = some (some (.agg #[.int .i64 0, .int .u8 0, .int .i64 0, .int .i64 0, .int .i64 0, .int .i64 0, .bool false, .slice none 0 0]), 8, 80) by kernel_rfl)
  have HI := hide hi
  have HZ0 := hide hz0
  have HZ1 := hide hz1
  have HZ2 := hide hz2
  obtain ⟨a, cap, rfl⟩ := h.row.split
  have HFW := hide (show T.length ≤ 512 by have := h.few; have := h.kp; omega)
  have RG := hide h
  have c2 := cell_of_block h.head 2
  clear hi hz0 hz1 hz2 h
  go_enter Try.func21, Try.ntmps21
  go_wp2_with fail
  clear c2
  go_loopw [3, 13] (fun s i W => ∃ (k : Nat) (T' : List TxA) (a4 : Option Addr) (c4 : Nat), k ≤ T.length ∧ i = .int .i64 k ∧ s = .slice a4 k c4 ∧ T'.length = k ∧ T'.map (·.t) = (T.take k).map (·.t) ∧ W.ownsRow w.heap.size 35 8 (.slice a4 k c4) k (T'.flatMap txC) ∧ (∀ y ∈ T', LnT W y.la y.t.L) ∧ Below w.heap.size w W) (fun s i _ => T.length - (intOf i).toNat)
  case atStart => exact ⟨0, [], none, 0, by omega, rfl, rfl, rfl, rfl, World.ownsRow_nil _ _ _ _, (fun y hy => by cases hy), Below.refl _ _⟩
  case round =>
    obtain ⟨k, T', a4, c4, hk, rfl, rfl, hl, hm, ho, hln, hb⟩ := hrel
    have HL := hide hl
    have HM := hide hm
    have OW := hide ho
    have LW := hide hln
    have BW := hide hb
    clear hl hm ho hln hb
    by_cases hlt : k < T.length
    · have HLT := hide hlt
      obtain ⟨g, o, rfl, hg1, hg2, hcell, hfz⟩ := OffRow.rows txC txC_length ta0 (RG.out.below BW.out).row rfl (by decide) k hlt
      have hmy : T.getD k ta0 ∈ T := by simp [List.getD, hlt]
      have HLN := hide ((RG.out.below BW.out).lines _ hmy)
      have HF8 := hide (RG.out.ok _ (List.mem_map.2 ⟨_, hmy, rfl⟩)).1.few
      have HTN := hide (show (T.take (k + 1)).map (·.t) = (T.take k).map (·.t) ++ [(T.getD k ta0).t] by
        rw [List.take_add_one, List.getElem?_eq_getElem hlt, List.map_append]
        simp [List.getD, hlt])
      have HFW := hide (show k ≤ 512 by have := HFW.out; omega)
      have HC3 := hide hcell
      clear hcell hfz hg1 hg2 hmy
      generalize T.getD k ta0 = y at *
      have c0 : wr.cell? ⟨g, o + k * 8, none⟩ = some (.int .i64 y.t.num) := HC3.out 0 (by decide)
      have c1 : wr.cell? ⟨g, o + k * 8 + 1, none⟩ = some (.int .u8 y.t.kind) := HC3.out 1 (by decide)
      have c2 : wr.cell? ⟨g, o + k * 8 + 2, none⟩ = some (.int .i64 y.t.shift) := HC3.out 2 (by decide)
      have c3 : wr.cell? ⟨g, o + k * 8 + 3, none⟩ = some (.int .i64 y.t.ref) := HC3.out 3 (by decide)
      have c4' : wr.cell? ⟨g, o + k * 8 + 4, none⟩ = some (.int .i64 y.t.amt) := HC3.out 4 (by decide)
      have c5 : wr.cell? ⟨g, o + k * 8 + 5, none⟩ = some (.int .i64 y.t.left) := HC3.out 5 (by decide)
      have c6 : wr.cell? ⟨g, o + k * 8 + 6, none⟩ = some (.bool y.t.void) := HC3.out 6 (by decide)
      have c7 : wr.cell? ⟨g, o + k * 8 + 7, none⟩ = some (.slice y.la y.t.L.length y.lc) := HC3.out 7 (by decide)
      obtain ⟨ob, hob⟩ : ∃ ob, ob = (Obj.cells #[.int .i64 y.t.num, .int .u8 y.t.kind, .int .i64 y.t.shift, .int .i64 y.t.ref, .int .i64 y.t.amt, .int .i64 y.t.left, .bool y.t.void, .slice y.la y.t.L.length y.lc] 35) := ⟨_, rfl⟩
      have hal := (Below.refl wr.heap.size wr).alloc (Nat.le_refl _) ob
      have X1 := hide (show (wr.alloc ob).heap[wr.heap.size]? = some (.cells #[.int .i64 y.t.num, .int .u8 y.t.kind, .int .i64 y.t.shift, .int .i64 y.t.ref, .int .i64 y.t.amt, .int .i64 y.t.left, .bool y.t.void, .slice y.la y.t.L.length y.lc] 35 (0, 0)) by rw [heap_new, hob])
      have OW1 := hide (owns_below OW.out hal)
      have LW1 := hide (show ∀ y ∈ T', LnT (wr.alloc ob) y.la y.t.L from fun y hy => (LW.out y hy).below hal)
      have BW1 := hide (BW.out.trans (hal.mono BW.out.size))
      have HCP := hide (copied_any y HF8.out _ (HLN.out.below hal).lnIn)
      unfold CopiedT txV txC at HCP
      clear hal OW LW BW HLN
      go_upto_region 7 with (fail)
      rw [← hob]
      generalize wr.alloc ob = w1 at *
      generalize wr.heap.size = q at *
      clear hob ob c0 c1 c2 c3 c4' c5 c6 c7
      have HXI := hide (tx_info y)
      unfold txC at HXI
      clear HC3
      go_wp2_with (refine rw_load rfl 35 (.tmp 5) rfl q rfl 35 _ (0, 0) _ X1.out Try.underlying35 rfl HXI.out ?_)
      refine HCP.out.mono ?_
      rintro e w2 ⟨a3, c8, rfl, hln, hb⟩
      have OW2 := hide (owns_below OW1.out hb)
      have LW2 := hide (show ∀ y ∈ T', LnT w2 y.la y.t.L from fun y hy => (LW1.out y hy).below hb)
      have L2 := hide hln
      have BW2 := hide (BW1.out.trans (hb.mono BW1.out.size))
      clear hb hln HCP OW1 LW1 BW1 X1 HXI
      have hal := (Below.refl w2.heap.size w2).alloc (Nat.le_refl _) (.cells (txC ⟨y.t, a3, c8⟩).toArray 35)
      have XN := hide (heap_new w2 (.cells (txC ⟨y.t, a3, c8⟩).toArray 35))
      have OW3 := hide (owns_below OW2.out hal)
      have LW3 := hide (show ∀ z ∈ T', LnT (w2.alloc (.cells (txC ⟨y.t, a3, c8⟩).toArray 35)) z.la z.t.L from fun z hz => (LW2.out z hz).below hal)
      have L3 := hide (L2.out.below hal)
      have BW3 := hide (BW2.out.trans (hal.mono BW2.out.size))
      have hw2 : w.heap.size ≤ (w2.alloc (.cells (txC ⟨y.t, a3, c8⟩).toArray 35)).heap.size := BW3.out.size
      clear hal OW2 LW2 L2 BW2
      have HK := HFW.out
      go_wp2_with (at_builtin; refine wpList_append_own2 _ rfl _ _ 67 rfl w.heap.size 35 i0 (.agg #[.int .i64 0, .int .u8 0, .int .i64 0, .int .i64 0, .int .i64 0, .int .i64 0, .bool false, .slice none 0 0]) 8 80 Try.underlying67 HI.out HZ0.out HZ1.out HZ2.out rfl (by decide) (.slice a4 k c4) k (T'.flatMap txC) rfl OW3.out ⟨w2.heap.size, 0, none⟩ 1 1 (by decide) (txC ⟨y.t, a3, c8⟩) rfl rfl (cells_new XN.out) (txC_one _) (by unfold maxLen; omega) (by omega) hw2 ?_; intro g3 c3' w3 ho hgr hnil; have OW4 := hide ho; have KG := hide (KeepsT.grown (Ts := SaleTs) OW3.out (by decide) hgr); have BW4 := hide (BW3.out.grown hgr BW3.out.size (fun jj hj => (OW3.out.lt jj hj).1)); clear ho hgr hnil)
      go_roundw
      case rel => exact ⟨k + 1, T' ++ [⟨y.t, a3, c8⟩], some ⟨g3, 0, none⟩, c3', HLT.out, by go_num, rfl, by rw [List.length_append, HL.out]; rfl, by rw [HTN.out, List.map_append, HM.out]; rfl, by rw [List.flatMap_append]; simpa using OW4.out, (fun z hz => by
        rcases List.mem_append.1 hz with h | h
        · exact (LW3.out z h).keepsT KG.out (by decide)
        · rw [List.mem_singleton.1 h]; exact L3.out.keepsT KG.out (by decide)), BW4.out⟩
      case measure => have := HLT.out; simp [intOf]; omega
    · obtain rfl : k = T.length := by omega
      rw [List.take_length] at HM
      go_wp2_with fail
      go_ret
      exact ⟨T', a4, c4, HM.out, rfl, OW.out, LW.out, BW.out⟩
end Go.Proofs.Ytbnbfnlfgmlcgaa
