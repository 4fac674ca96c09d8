/-
  Layer 5, the document's calls, second part: fill, blank, On.
-/
import Derived.Test.YthippbckjldijaaRNand
--import Derived.Test.Zdbg
namespace Go.Proofs.Ythippbckjldijaa
set_option linter.unusedSimpArgs false
set_option linter.unusedVariables false
open Go.RowKit Go.WideShapes Go.ChangeShapes Go.ChangeAt Go.Deep

/-- so many bytes of one -/
def fillZ (n : Nat) (b : UInt8) : ByteArray := ⟨(List.replicate n b).toArray⟩
theorem fillZ_size (n : Nat) (b : UInt8) : (fillZ n b).size = n := by
  show (List.replicate n b).toArray.size = n
  simp
theorem conv_fill (w : World) (p n : Nat) (b : UInt8) (c : Array Value) (h : w.heap[p]? = some (.cells c 5 (0, 0))) (hc : ∀ i, i < n → c[i]? = some (.int .u8 (b.toNat : Int))) :
    (convert 66 9 (.slice (some ⟨p, 0, none⟩) n n)).run Try.prog w = .ok (.string (fillZ n b)) w := by
  have h1 := run_convert_bytes_back (P := Try.prog) w 66 9 5 ⟨p, 0, none⟩ n (List.replicate n b) Try.underlying66 Try.underlying5 Try.underlying9 (fun i hi => by
    rw [List.length_replicate] at hi
    rw [List.getElem_replicate]
    have h2 := (cell_of_block h i).trans (hc i hi)
    by_cases e : i = 0
    · subst e
      simp [Addr.add, h2]
    · simp [Addr.add, e, h2])
  rw [List.length_replicate] at h1
  exact h1
theorem made_u8 (n : Nat) (hn : n ≤ 2000) (W : World) : (Instr.makeSlice 66 (.int .i64 (n : Int)) (.int .i64 (n : Int))).run Try.prog W = .ok (.slice (some ⟨W.heap.size, 0, none⟩) n n) (W.alloc (.cells (List.replicate n (Value.int .u8 0)).toArray 5)) :=
  run_make_nums 66 5 (B := 1) Try.underlying66 (by kernel_rfl) n n rfl (by omega) (by omega) W
set_option maxRecDepth 100000 in
set_option maxHeartbeats 400000 in
theorem fill_any (n : Nat) (hn : n ≤ 2000) (b : UInt8) (w : World) :
    Calls Try.prog 43 #[.int .i64 (n : Int), .int .u8 (b.toNat : Int)] w fun e w' => e = .returned (.string (fillZ n b)) ∧ Below w.heap.size w w' := by
  have hmk := made_u8 n hn w
  obtain ⟨w0, hw0⟩ : ∃ w0, w.alloc (.cells (List.replicate n (Value.int .u8 0)).toArray 5) = w0 := ⟨_, rfl⟩
  rw [hw0] at hmk
  have hr : w0.heap[w.heap.size]? = some (.cells (List.replicate n (Value.int .u8 0)).toArray 5 (0, 0)) := by rw [← hw0]; exact heap_new w _
  have hb : Below w.heap.size w w0 := by rw [← hw0]; exact (Below.refl _ w).alloc (Nat.le_refl _) _
  have HR := hide hr
  have HB := hide hb
  clear hr hb hw0
  generalize w.heap.size = p at *
  go_enter Try.func43, Try.ntmps43
  go_wp2_with fail
  go_loopw [6] (fun i W => ∃ (k : Nat) (c : Array Value), k ≤ n ∧ i = .int .i64 k ∧ W.heap[p]? = some (.cells c 5 (0, 0)) ∧ c.size = n ∧ (∀ i, i < k → c[i]? = some (.int .u8 (b.toNat : Int))) ∧ Below p w W) (fun i _ => n - (intOf i).toNat)
  case atStart => exact ⟨0, _, by omega, rfl, HR.out, by simp, fun i hi => by omega, HB.out⟩
  case round =>
    obtain ⟨k, c, hk, rfl, h1, h2, h3, h4⟩ := hrel
    have H3 := hide h3
    have H4 := hide h4
    clear h3 h4
    by_cases hlt : k < n
    · have ck : wr.cell? ⟨p, k, none⟩ = some (c[k]'(by omega)) := by rw [cell_of_block h1]; simp [h2, hlt]
      have fk : wr.frozen? ⟨p, k, none⟩ = false := frozen_of_block h1 k
      have HN1 := hide (block_setCell h1 k (.int .u8 (b.toNat : Int)))
      have HB1 := hide (H4.out.setCell (p := ⟨p, k, none⟩) (Nat.le_refl p) (.int .u8 (b.toNat : Int)))
      clear h1
      go_wp2_with fail
      go_roundw
      case rel => exact ⟨k + 1, _, by omega, by go_num, HN1.out, by simpa using h2, fun i hi => by
        rw [Array.getElem?_setIfInBounds]
        by_cases e : k = i
        · subst e; rw [if_pos rfl, if_pos (by omega)]
        · rw [if_neg e]; exact H3.out i (by omega), HB1.out⟩
      case measure => simp [intOf]; omega
    · obtain rfl : k = n := by omega
      have hcv := conv_fill wr p k b c h1 H3.out
      clear h1 HR HB hmk
      go_wp2_with fail
      go_ret
      exact ⟨rfl, H4.out⟩
section
variable {c pq n e a f m cp B : Nat} {G : Nat → Nat} {S : ChipM}
theorem blank_any (sz : Nat) (hs : sz ≤ 1024) (w : World) (h : w.cell? ⟨c, 2, none⟩ = some (.int .i64 (sz : Int))) :
    Calls Try.prog 36 #[.pointer (some ⟨c, 0, none⟩)] w fun x w' => x = .returned (.string (fillZ (sz + 32) 255)) ∧ Below w.heap.size w w' := by
  have HF := hide (show Calls Try.prog 43 #[.int .i64 ((sz : Int) + 32), .int .u8 255] w fun e w' => e = .returned (.string (fillZ (sz + 32) 255)) ∧ Below w.heap.size w w' from fill_any (sz + 32) (by omega) 255 w)
  go_enter Try.func36, Try.ntmps36
  go_wp2_with fail
  refine HF.out.mono ?_
  rintro e0 w1 ⟨rfl, hb⟩
  have HB := hide hb
  clear hb
  go_wp2_with fail
  go_ret
  exact ⟨rfl, HB.out⟩
set_option maxRecDepth 100000 in
set_option maxHeartbeats 400000 in
theorem ron_any (w : World) (h : RefAt w c pq n e a f m cp G B S) :
    Calls Try.prog 21 #[.pointer (some ⟨c, 0, none⟩)] w (RefIs c pq n e a f m cp G B (onS S) (.tuple #[]) w) := by
  have c11 : w.cell? ⟨c, 11, none⟩ = some (.bool S.off) := h.cell 11
  have c9 : w.cell? ⟨c, 9, none⟩ = some (.int .i64 S.fuse) := h.cell 9
  have f9 := h.free 9
  have f11 := h.free 11
  have h1 := h.setHead 11 (.bool false) { S with off := false } rfl rfl rfl
  have h2 := h1.setHead 9 (.int .i64 0) { S with off := false, fuse := 0 } rfl rfl rfl
  have T1 := hide ((h.turnHead 11 (.bool false)).trans (h1.turnHead 9 (.int .i64 0)))
  have N1 := hide h2
  have HF := hide h.few
  clear h h1 h2
  go_enter Try.func21, Try.ntmps21
  go_wp2_with fail
  clear c11 c9 f9 f11
  generalize (w.setCell ⟨c, 11, none⟩ (.bool false)).setCell ⟨c, 9, none⟩ (.int .i64 0) = w1 at *
  go_loopw [2] (fun i W => ∃ k : Nat, k ≤ S.L.length ∧ i = .int .i64 k ∧ RefAt W c pq n e a f m cp G B { S with off := false, fuse := 0, L := onL S.L k } ∧ RTurn B w W) (fun i _ => S.L.length - (intOf i).toNat)
  case atStart => exact ⟨0, by omega, rfl, N1.out, T1.out⟩
  case round =>
    obtain ⟨k, hk, rfl, hn, ht⟩ := hrel
    have NK := hide hn
    have TK := hide ht
    clear hn ht
    have hl := onL_length S.L k
    have hfw := HF.out.1
    have c0 : wr.cell? ⟨c, 0, none⟩ = some (.int .i64 (S.L.length : Int)) := by
      have := NK.out.cell 0
      rw [this]
      show some (Value.int .i64 ((onL S.L k).length : Int)) = _
      rw [hl]
    by_cases hlt : k < S.L.length
    · have c7 : wr.cell? ⟨c, 7, none⟩ = some (.slice (some ⟨f, 0, none⟩) S.L.length S.L.length) := by
        have := NK.out.cell 7
        rw [this]
        show some (Value.slice (some ⟨f, 0, none⟩) (onL S.L k).length (onL S.L k).length) = _
        rw [hl]
      have c8 : wr.cell? ⟨c, 8, none⟩ = some (.slice (some ⟨m, 0, none⟩) S.L.length S.L.length) := by
        have := NK.out.cell 8
        rw [this]
        show some (Value.slice (some ⟨m, 0, none⟩) (onL S.L k).length (onL S.L k).length) = _
        rw [hl]
      have hk2 : k < ({ S with off := false, fuse := 0, L := onL S.L k } : ChipM).L.length := by show k < (onL S.L k).length; omega
      obtain ⟨d7, g7⟩ := NK.out.at_fail k hk2
      obtain ⟨d8, g8⟩ := NK.out.at_mill k hk2
      have N2 := hide (NK.out.drew.setFail k hk2 false)
      rw [Bool.false_or] at N2
      have T2 := hide (TK.out.drew.trans (NK.out.drew.turnFail k (.bool (({ S with off := false, fuse := 0, L := onL S.L k } : ChipM).blk k).mill)))
      generalize (({ S with off := false, fuse := 0, L := onL S.L k } : ChipM).blk k).mill = mi at *
      generalize ((({ S with off := false, fuse := 0, L := onL S.L k } : ChipM).blk k).failed || mi) = fa at *
      clear hk2
      go_upto_region 5 with (fail)
      go_still_tail 13, (by kernel_rfl)
      change wpList _ _ _ _ _ wr.drew
      go_wp2_with fail
      go_roundw
      case rel => exact ⟨k + 1, by omega, by go_num, N2.out, T2.out⟩
      case measure => simp [intOf]; omega
    · obtain rfl : k = S.L.length := by omega
      have hs : ({ S with off := false, fuse := 0, L := onL S.L S.L.length } : ChipM) = onS S := by unfold onS; rw [onL_all]
      have hn := NK.out
      rw [hs] at hn
      have HN := hide hn
      clear hn hs
      go_wp2_with fail
      go_end0
      exact ⟨rfl, HN.out, TK.out⟩
end
end Go.Proofs.Ythippbckjldijaa
