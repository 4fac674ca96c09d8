/-
  Layer 5, the program's calls: Erase, whatever stands.
-/
import Derived.Test.YthippbckjldijaaNand17
--import Derived.Test.Zdbg
namespace Go.Proofs.Ythippbckjldijaa
set_option linter.unusedSimpArgs false
set_option linter.unusedVariables false
open Go.RowKit Go.WideShapes Go.ChangeShapes Go.ChangeAt Go.Deep

theorem torn_erase (p q B : Nat) (G : Nat → Nat) (S : ChipM) (w : World) (h : NandAt w p q B G S) :
    Calls Try.prog 45 #[.pointer (some ⟨p, 0, none⟩)] w fun e w' => e = .returned (.func (.func 53) #[] #[.pointer (some ⟨w.heap.size, 0, none⟩)]) ∧ w'.heap[w.heap.size]? = some (.cells #[.string S.torn] 9 (0, 0)) ∧ Below w.heap.size w w' := by
  have c10 : w.cell? ⟨p, 10, none⟩ = some (.string S.torn) := h.cell 10
  clear h
  go_enter Try.func45, Try.ntmps45
  go_wp2_with fail
  go_ret
  exact ⟨rfl, heap_new w _, (Below.refl _ _).alloc (Nat.le_refl _) _⟩
/-- what an Erase turns that is cut -/
def eraseCut (S : ChipM) (k : Nat) : ChipM := (cutS (erasS S)).put k (wipeB (cutS (erasS S)) k (goneB S.torn) S.pgs)
set_option maxRecDepth 100000 in
set_option maxHeartbeats 1000000 in
theorem erase_cut (p q B : Nat) (G : Nat → Nat) (S : ChipM) (hS : NandOk S) (k : Nat) (w : World) (h : NandAt w p q B G S) (ha : askE S (k : Int) 0 = 0) (hE : sinE (S.blk k) false = 0) (hfz : S.fuse = 1) :
    Calls Try.prog 16 #[.pointer (some ⟨p, 0, none⟩), .int .i64 (k : Int)] w (NandIs p q B G (eraseCut S k) (.int .i64 9) w) := by
  obtain ⟨ho, -, hk', -, hi'⟩ := askE_in ha
  have hk : k < S.L.length := by omega
  have HASK := hide (ask_any p q B G S (k : Int) 0 w h)
  rw [ha] at HASK
  have HAT := hide (at_yes p q B G S k hk w h)
  have HS := hide (sin_any p q B G S k hk false hS.sins.1 (by have := hS.sins.2; omega) w h)
  rw [show sinS S k false = S by unfold sinS; rw [if_pos hE], hE] at HS
  have HC := hide (fun W hW => cut_eras p q B G S hS.eras.1 (by have := hS.eras.2; omega) hS.fuse.1 hS.fuse.2 W hW)
  rw [decide_eq_true hfz] at HC
  have HR := hide (show eraseCut S k = (cutS (erasS S)).put k (wipeB (cutS (erasS S)) k (goneB S.torn) S.pgs) from rfl)
  rw [HR.out]
  clear HR
  have hl1 : k < (cutS (erasS S)).L.length := by rw [cut_len]; exact hk
  have ht1 : (cutS (erasS S)).torn = S.torn := by rw [cut_torn]; rfl
  have hp1 : (cutS (erasS S)).pgs = S.pgs := by rw [cut_pgs]; rfl
  generalize cutS (erasS S) = S1 at *
  have HTE := hide (fun W hW => torn_erase p q B G S1 W hW)
  rw [ht1] at HTE
  have HWI := hide (fun tb W hX hW => wipe_torn p q B G S1 k hl1 S.torn hS.torn tb W hX hW)
  rw [hp1] at HWI
  clear h ha hS hE hfz ht1 hp1 hl1
  go_enter Try.func16, Try.ntmps16
  go_wp2_with fail
  refine HASK.out.mono ?_
  rintro e0 w1 ⟨rfl, rfl⟩
  go_wp2_with fail
  refine HAT.out.mono ?_
  rintro e0 w1 ⟨rfl, rfl⟩
  go_wp2_with fail
  refine HS.out.mono ?_
  rintro e0 w2 ⟨rfl, hn, ht⟩
  have N2 := hide hn
  have T2 := hide ht
  clear hn ht HASK HAT HS
  go_wp2_with fail
  refine (HC.out _ N2.out).mono ?_
  rintro e0 w3 ⟨rfl, hn, ht⟩
  have N3 := hide hn
  have T3 := hide (T2.out.trans ht)
  clear hn ht N2 T2 HC
  go_wp2_with fail
  refine (HTE.out _ N3.out).mono ?_
  rintro e0 w4 ⟨rfl, hx, hb⟩
  have X4 := hide hx
  have N4 := hide (N3.out.below hb)
  have T4 := hide (T3.out.trans (Turn.of_below hb N3.out.size))
  clear hx hb
  go_wp2_with fail
  refine (HWI.out _ _ X4.out N4.out).mono ?_
  rintro e0 w5 ⟨rfl, hn, ht⟩
  have N5 := hide hn
  have T5 := hide (T4.out.trans ht)
  clear hn ht
  go_wp2_with fail
  go_ret
  exact ⟨rfl, N5.out, T5.out⟩
/-- what Erase turns, and tells -/
def eraseT (S : ChipM) (b : Int) : ChipM × Int :=
  if askE S b 0 ≠ 0 then (S, askE S b 0)
  else if sinE (S.blk b.toNat) false ≠ 0 then (sinS S b.toNat false, sinE (S.blk b.toNat) false)
  else if S.fuse = 1 then (eraseCut S b.toNat, 9)
  else (erasedS S b.toNat, erasedE S b.toNat)
/-- no block was erased too often -/
def FewE (S : ChipM) : Prop := ∀ k, k < S.L.length → 0 ≤ (S.blk k).erased ∧ (S.blk k).erased ≤ 1000000
theorem erase_any (p q B : Nat) (G : Nat → Nat) (S : ChipM) (hS : NandOk S) (hF : FewE S) (b : Int) (w : World) (h : NandAt w p q B G S) :
    Calls Try.prog 16 #[.pointer (some ⟨p, 0, none⟩), .int .i64 b] w (NandIs p q B G (eraseT S b).1 (.int .i64 (eraseT S b).2) w) := by
  by_cases ha : askE S b 0 = 0
  · obtain ⟨-, h0, h1, -, -⟩ := askE_in ha
    obtain ⟨k, rfl⟩ : ∃ k : Nat, (k : Int) = b := ⟨b.toNat, by omega⟩
    by_cases hE : sinE (S.blk k) false = 0
    · by_cases hf : S.fuse = 1
      · have e1 : eraseT S (k : Int) = (eraseCut S k, 9) := by unfold eraseT; rw [if_neg (fun h => h ha), Int.toNat_natCast, if_neg (fun h => h hE), if_pos hf]
        rw [e1]
        exact erase_cut p q B G S hS k w h ha hE hf
      · have e1 : eraseT S (k : Int) = (erasedS S k, erasedE S k) := by unfold eraseT; rw [if_neg (fun h => h ha), Int.toNat_natCast, if_neg (fun h => h hE), if_neg hf]
        rw [e1]
        exact erase_go p q B G S hS k w h ha hE hf (hF k (by omega))
    · have e1 : eraseT S (k : Int) = (sinS S k false, sinE (S.blk k) false) := by unfold eraseT; rw [if_neg (fun h => h ha), Int.toNat_natCast, if_pos hE]
      rw [e1]
      exact erase_sin p q B G S hS k w h ha hE
  · have e1 : eraseT S b = (S, askE S b 0) := by unfold eraseT; rw [if_pos ha]
    rw [e1]
    exact erase_ask p q B G S b w h ha
end Go.Proofs.Ythippbckjldijaa
