/-
  Layer 5, the program's calls, ninth part: On; nil.
-/
import Derived.Test.YthippbckjldijaaNand8
namespace Go.Proofs.Ythippbckjldijaa
set_option linter.unusedSimpArgs false
set_option linter.unusedVariables false
open Go.RowKit Go.WideShapes Go.ChangeShapes Go.ChangeAt Go.Deep

def clrB (b : BlkM) : BlkM := { b with failed := false }
/-- the first k blocks are tried anew -/
def onL (L : List BlkM) : Nat → List BlkM
  | 0 => L
  | k + 1 => (onL L k).set k (clrB ((onL L k).getD k blk0))
theorem onL_length (L : List BlkM) : ∀ k, (onL L k).length = L.length
  | 0 => rfl
  | k + 1 => by rw [onL, List.length_set, onL_length L k]
theorem onL_at (L : List BlkM) : ∀ k i, i < L.length → (onL L k).getD i blk0 = if i < k then clrB (L.getD i blk0) else L.getD i blk0
  | 0, i, _ => by rw [if_neg (by omega)]; rfl
  | k + 1, i, hi => by
    rw [onL]
    by_cases h : i = k
    · subst h
      rw [getD_set_self _ _ _ _ (by rw [onL_length]; exact hi), onL_at L i i hi, if_neg (by omega), if_pos (by omega)]
    · rw [getD_set_other _ _ _ _ _ h, onL_at L k i hi]
      by_cases h2 : i < k
      · rw [if_pos h2, if_pos (by omega)]
      · rw [if_neg h2, if_neg (by omega)]
theorem onL_all (L : List BlkM) : onL L L.length = L.map clrB := by
  apply List.ext_getElem
  · rw [onL_length, List.length_map]
  · intro i h1 h2
    rw [onL_length] at h1
    have h := onL_at L L.length i h1
    rw [if_pos h1] at h
    rw [List.getElem_map]
    have e1 : (onL L L.length).getD i blk0 = (onL L L.length)[i]'(by rw [onL_length]; exact h1) := by simp [List.getD, onL_length, h1]
    have e2 : L.getD i blk0 = L[i] := by simp [List.getD, h1]
    rw [e1, e2] at h
    exact h
def onS (S : ChipM) : ChipM := { S with off := false, fuse := 0, L := S.L.map clrB }
theorem on_nil (w : World) : Calls Try.prog 20 #[.pointer none] w fun e w' => e = .returned (.tuple #[]) ∧ w = w' := by
  go_enter Try.func20, Try.ntmps20
  go_wp2_with fail
  (try simp only [Exit.inBlock, Exit.then])
  refine bodyPost_ret (results_none rfl _ _ _) rfl ?_
  exact ⟨rfl, rfl⟩
set_option maxRecDepth 100000 in
set_option maxHeartbeats 400000 in
theorem on_any (p q B : Nat) (G : Nat → Nat) (S : ChipM) (w : World) (h : NandAt w p q B G S) :
    Calls Try.prog 20 #[.pointer (some ⟨p, 0, none⟩)] w (NandIs p q B G (onS S) (.tuple #[]) w) := by
  have c11 : w.cell? ⟨p, 11, none⟩ = some (.bool S.off) := h.cell 11
  have c9 : w.cell? ⟨p, 9, none⟩ = some (.int .i64 S.fuse) := h.cell 9
  have f9 := h.free 9
  have f11 := h.free 11
  have h1 := h.setHead 11 (.bool false) { S with off := false } rfl rfl rfl
  have h2 := h1.setHead 9 (.int .i64 0) { S with off := false, fuse := 0 } rfl rfl rfl
  have T1 := hide ((h.turnHead 11 (.bool false)).trans (h1.turnHead 9 (.int .i64 0)))
  have N1 := hide h2
  have c5 : ((w.setCell ⟨p, 11, none⟩ (.bool false)).setCell ⟨p, 9, none⟩ (.int .i64 0)).cell? ⟨p, 5, none⟩ = some (.slice (some ⟨q, 0, none⟩) S.L.length S.L.length) := h2.cell 5
  have c5' : w.cell? ⟨p, 5, none⟩ = some (.slice (some ⟨q, 0, none⟩) S.L.length S.L.length) := h.cell 5
  have HF := hide h.few
  clear h h1 h2
  go_enter Try.func20, Try.ntmps20
  go_wp2_with fail
  clear c11 c9 f9 f11 c5 c5'
  generalize (w.setCell ⟨p, 11, none⟩ (.bool false)).setCell ⟨p, 9, none⟩ (.int .i64 0) = w1 at *
  go_loopw [16] (fun i W => ∃ k : Nat, k ≤ S.L.length ∧ i = .int .i64 k ∧ NandAt W p q B G { S with off := false, fuse := 0, L := onL S.L k } ∧ Turn B w W) (fun i _ => S.L.length - (intOf i).toNat)
  case atStart => exact ⟨0, by omega, rfl, N1.out, T1.out⟩
  case round =>
    obtain ⟨k, hk, rfl, hn, ht⟩ := hrel
    have NK := hide hn
    have TK := hide ht
    clear hn ht
    have hl := onL_length S.L k
    have hfw := HF.out.1
    by_cases hlt : k < S.L.length
    · have c5 : wr.cell? ⟨p, 5, none⟩ = some (.slice (some ⟨q, 0, none⟩) S.L.length S.L.length) := by
        have := NK.out.cell 5
        rw [this]
        show some (Value.slice (some ⟨q, 0, none⟩) (onL S.L k).length (onL S.L k).length) = _
        rw [hl]
      have hk2 : k < ({ S with off := false, fuse := 0, L := onL S.L k } : ChipM).L.length := by show k < (onL S.L k).length; omega
      have d5 : wr.cell? ⟨q, k * 6 + 5, none⟩ = some (.bool ((onL S.L k).getD k blk0).failed) := NK.out.slot k hk2 5 (by decide)
      have f5 := NK.out.row.free (k * 6 + 5)
      have N2 := hide (NK.out.setBlk k hk2 5 (by decide) (.bool false) (clrB ((onL S.L k).getD k blk0)) rfl rfl)
      have T2 := hide (TK.out.trans (NK.out.turnBlk (k * 6 + 5) (.bool false)))
      clear hk2
      go_wp2_with fail
      go_roundw
      case rel => exact ⟨k + 1, by omega, by go_num, N2.out, T2.out⟩
      case measure => simp [intOf]; omega
    · obtain rfl : k = S.L.length := by omega
      have hs : ({ S with off := false, fuse := 0, L := onL S.L S.L.length } : ChipM) = onS S := by unfold onS; rw [onL_all]
      have hn := NK.out
      rw [hs] at hn
      have HN := hide hn
      clear hn hs
      go_wp2_with fail
      go_end0
      exact ⟨rfl, HN.out, TK.out⟩
end Go.Proofs.Ythippbckjldijaa
