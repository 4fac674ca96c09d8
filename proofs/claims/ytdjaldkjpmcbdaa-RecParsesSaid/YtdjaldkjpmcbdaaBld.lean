/-
  A strings.Builder that a call has made: what is written to it, and read of it.
-/
import Derived.Test.YtdjaldkjpmcbdaaKitN
import Derived.Test.YtdjaldkjpmcbdaaBe
import Derived.Test.YtdjaldkjpmcbdaaShelf
import Derived.Laws.Externs
import Derived.Lib.Builder
namespace Go.Proofs.Ytdjaldkjpmcbdaa
set_option linter.unusedSimpArgs false
set_option linter.unusedVariables false
open Go.RowKit Go.WideShapes Go.ChangeShapes Go.ChangeAt

abbrev BT : TypeId := 60
abbrev BE : TypeId := 5
theorem bld_info : ∃ j, Try.prog.info? BT = some j ∧ j.size = 2 := by
  have h : (Try.prog.info? BT).map (·.size) = some 2 := by kernel_rfl
  obtain ⟨j, hj, hs⟩ := Option.map_eq_some_iff.1 h
  exact ⟨j, hj, hs⟩
theorem bld_used (b : Nat) (w : World) (h0 : w.cell? ⟨b, 0, none⟩ = some (.pointer (some ⟨b, 0, none⟩))) :
    Calls Try.prog 24 #[.pointer (some ⟨b, 0, none⟩)] w fun e w' => e = .returned (.tuple #[]) ∧ w' = w := by
  obtain ⟨j, hj, -⟩ := bld_info
  have HJ := hide hj
  clear hj
  go_enter Try.func24, Try.ntmps24
  go_wp2
  rw [Lib.run_neq_ptr_same w _ Try.underlying58 HJ.out]
  go_wp2
  go_end0
  exact ⟨rfl, rfl⟩
theorem bld_fresh (b : Nat) (w : World) (h0 : w.cell? ⟨b, 0, none⟩ = some (.pointer none)) (hs : w.shape? b = some (BT, 2)) (hf : w.frozen? ⟨b, 0, none⟩ = false) :
    Calls Try.prog 24 #[.pointer (some ⟨b, 0, none⟩)] w fun e w' => e = .returned (.tuple #[]) ∧ w' = w.setCell ⟨b, 0, none⟩ (.pointer (some ⟨b, 0, none⟩)) := by
  obtain ⟨j, hj, hz⟩ := bld_info
  have HTO := hide (Lib.run_to_unsafe (P := Try.prog) w ⟨b, 0, none⟩ Try.underlying58 Try.underlying78 hj (by omega) hs (by show 0 < 2; omega))
  have HFR := hide (Lib.run_from_unsafe (P := Try.prog) w ⟨b, 0, none⟩ Try.underlying78 Try.underlying58 hj hs (by kernel_rfl))
  have HNE := hide (run_callFunc_extern (P := Try.prog) Try.func29 (by kernel_rfl) (by kernel_rfl) (by kernel_rfl) (e := Extern.AbiNoEscape.same) (by kernel_rfl) #[.pointer (some ⟨b, 0, none⟩)] w)
  clear hj hs
  go_enter Try.func24, Try.ntmps24
  go_wp2
  rw [HTO.out]
  simp only [Result.andThen]
  rw [Oper.upon_value]
  go_wp2
  rw [HNE.out, Lib.run_noEscape]
  simp only [Result.andThen]
  rw [Oper.upon_value]
  go_wp2
  rw [HFR.out]
  simp only [Result.andThen]
  rw [Oper.upon_value]
  go_wp2
  go_end0
  exact ⟨rfl, rfl⟩
theorem bld_check (B b : Nat) (bs : List Value) (w : World) (h : Lib.IsBuilder BT BE B b bs w) :
    Calls Try.prog 24 #[.pointer (some ⟨b, 0, none⟩)] w fun e w' => e = .returned (.tuple #[]) ∧ Lib.BuilderAt BT BE B b (.pointer (some ⟨b, 0, none⟩)) bs w' ∧ Below B w w' := by
  obtain h | h := h
  · exact (bld_fresh b w h.cell0 h.shape h.frozen0).mono fun e w' ⟨he, hw⟩ => ⟨he, hw ▸ h.used _, hw ▸ (Below.refl B w).setCell (p := ⟨b, 0, none⟩) h.1 _⟩
  · exact (bld_used b w h.cell0).mono fun e w' ⟨he, hw⟩ => ⟨he, hw ▸ h, hw ▸ Below.refl B w⟩
set_option maxRecDepth 100000 in
set_option maxHeartbeats 1000000 in
theorem bld_write (B b : Nat) (l : List Value) (s : ByteArray) (w : World) (h : Lib.IsBuilder BT BE B b l w) (hlen : l.length + s.size ≤ 140737488355328) (hBw : B ≤ w.heap.size) :
    Calls Try.prog 17 #[.pointer (some ⟨b, 0, none⟩), .string s] w fun e w' => e = .returned (.tuple #[.int .i64 s.size, .nilIface]) ∧ Lib.IsBuilder BT BE B b (l ++ Lib.strCells s) w' ∧ Below B w w' := by
  obtain ⟨i0, hi, hz0, hz1, hz2⟩ := info_parts (show (Try.prog.info? BE).map (fun i => (i.zero, i.size, i.bytes)) = some (some (.int .u8 0), 1, 1) by kernel_rfl)
  have HI := hide hi
  have HZ0 := hide hz0
  have HZ1 := hide hz1
  have HZ2 := hide hz2
  have HCK := hide (bld_check B b l w h)
  clear hi hz0 hz1 hz2 h
  go_enter Try.func17, Try.ntmps17
  go_wp2_with fail
  refine HCK.out.mono ?_
  rintro e w1 ⟨rfl, h1, hb1⟩
  obtain ⟨hB, v, hbk, hown, hne⟩ := h1
  have hlt := heap_lt hbk
  have c0 := (Lib.cell_of_heap hbk 0).trans (show _ = some (Value.pointer (some ⟨b, 0, none⟩)) from rfl)
  have c1 := (Lib.cell_of_heap hbk 1).trans (show _ = some v from rfl)
  have HBK := hide hbk
  have HOWN := hide hown
  have HB1 := hide hb1
  have hs1 := hb1.size
  clear hbk hown hb1 HCK
  go_wp2_with (at_builtin; refine Lib.wpList_append_own_string _ rfl _ _ 44 9 rfl B BE i0 Try.underlying44 Try.underlying9 HI.out HZ0.out HZ1.out HZ2.out _ _ _ rfl HOWN.out s rfl (by unfold maxLen; omega) (by omega) (by omega) ?_)
  intro v' w2 ho hgr _
  have hb2 : w2.heap[b]? = some (.cells #[.pointer (some ⟨b, 0, none⟩), v] BT (0, 0)) := by
    rw [hgr.block b hlt fun e => hne e.symm]
    exact HBK.out
  have d0 := (Lib.cell_of_heap hb2 0).trans (show _ = some (Value.pointer (some ⟨b, 0, none⟩)) from rfl)
  have d1 := (Lib.cell_of_heap hb2 1).trans (show _ = some v from rfl)
  have f1 := Lib.frozen_of_heap hb2 1
  have HB2 := hide (HB1.out.grown hgr (by omega) fun k hk => (HOWN.out.lt k hk).1)
  have HP := hide (Lib.BuilderAt.put (T := BT) (e := BE) (v' := v') (bs' := l ++ Lib.strCells s) hB hb2 (by simpa [Lib.strCells_length] using ho) (by decide))
  obtain ⟨ao, n', cap, rfl⟩ : ∃ ao n' cap, v' = .slice ao n' cap := by
    obtain ⟨hv, -⟩ | ⟨g, cap, cur, hv, -⟩ := ho.2
    · exact ⟨_, _, _, hv⟩
    · exact ⟨_, _, _, hv⟩
  clear ho hgr hb2 c0 c1
  go_wp2
  go_ret2
  exact ⟨rfl, .inr HP.out, HB2.out.setCell (p := ⟨b, 1, none⟩) hB _⟩
theorem strCells_bs (l : List UInt8) : Lib.strCells (bs l) = Lib.byteCells l := rfl
theorem byteCells_append (l m : List UInt8) : Lib.byteCells (l ++ m) = Lib.byteCells l ++ Lib.byteCells m := by simp [Lib.byteCells]
/-- a builder of one's own that holds bytes -/
def BldAt (B b : Nat) (l : List UInt8) (w : World) : Prop := Lib.IsBuilder BT BE B b (Lib.byteCells l) w
theorem BldAt.new (w : World) : BldAt w.heap.size w.heap.size [] (w.alloc (.cells #[.pointer none, .slice none 0 0] BT)) :=
  .inl ⟨Nat.le_refl _, .slice none 0 0, heap_new w _, World.ownsRow_nil _ _ _ _, by simp [Value.ownBlock]⟩
theorem bldAt_write (B b : Nat) (l m : List UInt8) (w : World) (h : BldAt B b l w) (hlen : l.length + m.length ≤ 140737488355328) (hBw : B ≤ w.heap.size) :
    Calls Try.prog 17 #[.pointer (some ⟨b, 0, none⟩), .string (bs m)] w fun e w' => e = .returned (.tuple #[.int .i64 (m.length : Int), .nilIface]) ∧ BldAt B b (l ++ m) w' ∧ Below B w w' := by
  have hm : (bs m).size = m.length := bs_size m
  refine (bld_write B b (Lib.byteCells l) (bs m) w h (by simp [Lib.byteCells, hm]; omega) hBw).mono ?_
  rintro e w' ⟨rfl, h1, h2⟩
  exact ⟨by rw [hm], by rw [strCells_bs, ← byteCells_append] at h1; exact h1, h2⟩
theorem bldAt_string (B b : Nat) (l : List UInt8) (w : World) (h : BldAt B b l w) (hBw : B ≤ w.heap.size) :
    Calls Try.prog 19 #[.pointer (some ⟨b, 0, none⟩)] w fun e w' => e = .returned (.string (bs l)) ∧ Below B w w' :=
  (Try.Builder_String_any_f B b l w (Lib.IsBuilderF.of h) hBw).mono fun e w' ⟨he, _, hb⟩ => ⟨he, hb⟩
theorem BldAt.below {B b : Nat} {l : List UInt8} {w w' : World} (h : BldAt B b l w) (hb : Below w.heap.size w w') : BldAt B b l w' := by
  obtain h | h := h
  · obtain ⟨hB, v, hbk, hown, hne⟩ := h
    exact .inl ⟨hB, v, (hb.block _ (heap_lt hbk)).trans hbk, owns_below hown hb, hne⟩
  · obtain ⟨hB, v, hbk, hown, hne⟩ := h
    exact .inr ⟨hB, v, (hb.block _ (heap_lt hbk)).trans hbk, owns_below hown hb, hne⟩
end Go.Proofs.Ytdjaldkjpmcbdaa
