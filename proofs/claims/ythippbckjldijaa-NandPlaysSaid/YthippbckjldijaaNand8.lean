/-
  Layer 5, the program's calls, eighth part: Program whole; nil; On.
-/
import Derived.Test.YthippbckjldijaaNand7
--import Derived.Test.Zdbg
namespace Go.Proofs.Ythippbckjldijaa
set_option linter.unusedSimpArgs false
set_option linter.unusedVariables false
open Go.RowKit Go.WideShapes Go.ChangeShapes Go.ChangeAt Go.Deep

theorem program_nil (b i : Int) (d e : ByteArray) (w : World) : Calls Try.prog 14 #[.pointer none, .int .i64 b, .int .i64 i, .string d, .string e] w fun e w' => e = .returned (.int .i64 1) ∧ w = w' := by
  go_enter Try.func14, Try.ntmps14
  go_wp2_with fail
  refine (ask_nil b i w).mono ?_
  rintro e0 w1 ⟨rfl, rfl⟩
  go_wp2_with fail
  go_ret
  exact ⟨rfl, rfl⟩
theorem program_ask (p q B : Nat) (G : Nat → Nat) (S : ChipM) (b i : Int) (d e : ByteArray) (w : World) (h : NandAt w p q B G S) (ha : askE S b i ≠ 0) :
    Calls Try.prog 14 #[.pointer (some ⟨p, 0, none⟩), .int .i64 b, .int .i64 i, .string d, .string e] w (NandIs p q B G S (.int .i64 (askE S b i)) w) := by
  have HASK := hide (ask_any p q B G S b i w h)
  have HH := hide h
  clear h
  generalize askE S b i = ae at *
  go_enter Try.func14, Try.ntmps14
  go_wp2_with fail
  refine HASK.out.mono ?_
  rintro e0 w1 ⟨rfl, rfl⟩
  go_wp2_with fail
  go_ret
  exact ⟨rfl, HH.out, Turn.refl _ _⟩
theorem program_arg (p q B : Nat) (G : Nat → Nat) (S : ChipM) (b i : Int) (d e : ByteArray) (w : World) (h : NandAt w p q B G S) (ha : askE S b i = 0) (hd : d.size ≠ S.size ∨ e.size ≠ 32) :
    Calls Try.prog 14 #[.pointer (some ⟨p, 0, none⟩), .int .i64 b, .int .i64 i, .string d, .string e] w (NandIs p q B G S (.int .i64 2) w) := by
  have HASK := hide (ask_any p q B G S b i w h)
  rw [ha] at HASK
  have HH := hide h
  have c2 : w.cell? ⟨p, 2, none⟩ = some (.int .i64 (S.size : Int)) := h.cell 2
  clear h ha
  by_cases h1 : d.size = S.size
  · have h2 : ¬ e.size = 32 := by rcases hd with hd | hd; exact absurd h1 hd; exact hd
    have hdI : (d.size : Int) = (S.size : Int) := by rw [h1]
    have heI : ¬ (e.size : Int) = 32 := by omega
    clear hd h1 h2
    go_enter Try.func14, Try.ntmps14
    go_wp2_with fail
    refine HASK.out.mono ?_
    rintro e0 w1 ⟨rfl, rfl⟩
    go_wp2_with fail
    go_ret
    exact ⟨rfl, HH.out, Turn.refl _ _⟩
  · have hdI : ¬ (d.size : Int) = (S.size : Int) := by omega
    clear hd h1
    go_enter Try.func14, Try.ntmps14
    go_wp2_with fail
    refine HASK.out.mono ?_
    rintro e0 w1 ⟨rfl, rfl⟩
    go_wp2_with fail
    go_ret
    exact ⟨rfl, HH.out, Turn.refl _ _⟩
set_option maxRecDepth 100000 in
set_option maxHeartbeats 400000 in
theorem program_sin (p q B : Nat) (G : Nat → Nat) (S : ChipM) (hS : NandOk S) (k i : Nat) (d e : ByteArray) (w : World) (h : NandAt w p q B G S) (ha : askE S (k : Int) (i : Int) = 0) (hd : d.size = S.size) (he : e.size = 32)
    (hE : sinE (S.blk k) (decide ((i : Int) ≠ (S.blk k).next)) ≠ 0) :
    Calls Try.prog 14 #[.pointer (some ⟨p, 0, none⟩), .int .i64 (k : Int), .int .i64 (i : Int), .string d, .string e] w (NandIs p q B G (sinS S k (decide ((i : Int) ≠ (S.blk k).next))) (.int .i64 (sinE (S.blk k) (decide ((i : Int) ≠ (S.blk k).next)))) w) := by
  obtain ⟨ho, -, hk', -, hi'⟩ := askE_in ha
  have hk : k < S.L.length := by omega
  have HASK := hide (ask_any p q B G S (k : Int) (i : Int) w h)
  rw [ha] at HASK
  have HAT := hide (at_yes p q B G S k hk w h)
  have HSIN := hide (fun o => sin_any p q B G S k hk o hS.sins.1 (by have := hS.sins.2; omega) w h)
  have c2 : w.cell? ⟨p, 2, none⟩ = some (.int .i64 (S.size : Int)) := h.cell 2
  have d1 : w.cell? ⟨q, k * 6 + 1, none⟩ = some (.int .i64 (S.blk k).next) := h.slot k hk 1 (by decide)
  have hdI : (d.size : Int) = (S.size : Int) := by rw [hd]
  have heI : (e.size : Int) = 32 := by rw [he]; rfl
  clear h ha hS
  obtain ⟨nx, hnx⟩ : ∃ nx, (S.blk k).next = nx := ⟨_, rfl⟩
  rw [hnx] at d1 hE ⊢
  by_cases hq : (i : Int) = nx
  · rw [← hq] at d1
    rw [decide_eq_false (show ¬ (i : Int) ≠ nx from fun h => h hq)] at hE ⊢
    have HS := hide (HSIN.out false)
    generalize sinE (S.blk k) false = E at *
    clear hq HSIN hnx
    go_enter Try.func14, Try.ntmps14
    go_wp2_with fail
    refine HASK.out.mono ?_
    rintro e0 w1 ⟨rfl, rfl⟩
    go_wp2_with fail
    refine HAT.out.mono ?_
    rintro e0 w1 ⟨rfl, rfl⟩
    go_wp2_with fail
    refine HS.out.mono ?_
    rintro e0 w2 ⟨rfl, hn, ht⟩
    have N2 := hide hn
    have T2 := hide ht
    clear hn ht
    go_wp2_with fail
    go_ret
    exact ⟨rfl, N2.out, T2.out⟩
  · rw [decide_eq_true (show (i : Int) ≠ nx from hq)] at hE ⊢
    have HS := hide (HSIN.out true)
    generalize sinE (S.blk k) true = E at *
    clear HSIN hnx
    have hqb : ((i : Int) != nx) = true := by simpa using hq
    go_enter Try.func14, Try.ntmps14
    go_wp2_with fail
    refine HASK.out.mono ?_
    rintro e0 w1 ⟨rfl, rfl⟩
    go_wp2_with fail
    refine HAT.out.mono ?_
    rintro e0 w1 ⟨rfl, rfl⟩
    go_wp2_with fail
    refine HS.out.mono ?_
    rintro e0 w2 ⟨rfl, hn, ht⟩
    have N2 := hide hn
    have T2 := hide ht
    clear hn ht
    go_wp2_with fail
    go_ret
    exact ⟨rfl, N2.out, T2.out⟩
/-- Program, whatever is asked -/
theorem program_any (p q B : Nat) (G : Nat → Nat) (S : ChipM) (hS : NandOk S) (b i : Int) (d e : ByteArray) (w : World) (h : NandAt w p q B G S) :
    Calls Try.prog 14 #[.pointer (some ⟨p, 0, none⟩), .int .i64 b, .int .i64 i, .string d, .string e] w (NandIs p q B G (progT S b i d e).1 (.int .i64 (progT S b i d e).2) w) := by
  by_cases ha : askE S b i = 0
  · by_cases hd : d.size ≠ S.size ∨ e.size ≠ 32
    · have e1 : progT S b i d e = (S, 2) := by unfold progT; rw [if_neg (fun h => h ha), if_pos hd]
      rw [e1]
      exact program_arg p q B G S b i d e w h ha hd
    · obtain ⟨ho, hb0, hk', hi0, hi'⟩ := askE_in ha
      obtain ⟨k, rfl⟩ : ∃ k : Nat, (k : Int) = b := ⟨b.toNat, by omega⟩
      obtain ⟨j, rfl⟩ : ∃ j : Nat, (j : Int) = i := ⟨i.toNat, by omega⟩
      have hd1 : d.size = S.size := by by_cases h1 : d.size = S.size; exact h1; exact absurd (.inl h1) hd
      have hd2 : e.size = 32 := by by_cases h1 : e.size = 32; exact h1; exact absurd (.inr h1) hd
      by_cases hE : sinE (S.blk k) (decide ((j : Int) ≠ (S.blk k).next)) = 0
      · have e1 : progT S (k : Int) (j : Int) d e = (progS S k j d e, progE S k) := by
          unfold progT
          rw [if_neg (fun h => h ha), if_neg hd, Int.toNat_natCast, Int.toNat_natCast, if_neg (fun h => h hE)]
        rw [e1]
        have h2 : (S.blk k).failed = false ∧ (S.blk k).mill = false ∧ (S.blk k).next = (j : Int) := by
          unfold sinE at hE
          by_cases h3 : (S.blk k).failed = true ∨ (S.blk k).mill = true
          · rw [if_pos h3] at hE; omega
          · rw [if_neg h3] at hE
            by_cases h4 : decide ((j : Int) ≠ (S.blk k).next) = true
            · rw [if_pos h4] at hE; omega
            · refine ⟨?_, ?_, ?_⟩
              · cases hq : (S.blk k).failed with
                | true => exact absurd (.inl hq) h3
                | false => rfl
              · cases hq : (S.blk k).mill with
                | true => exact absurd (.inr hq) h3
                | false => rfl
              · by_cases h5 : (j : Int) = (S.blk k).next
                · exact h5.symm
                · exact absurd (decide_eq_true h5) h4
        exact program_go p q B G S hS k j d e w h ha hd1 hd2 h2.1 h2.2.1 h2.2.2
      · have e1 : progT S (k : Int) (j : Int) d e = (sinS S k (decide ((j : Int) ≠ (S.blk k).next)), sinE (S.blk k) (decide ((j : Int) ≠ (S.blk k).next))) := by
          unfold progT
          rw [if_neg (fun h => h ha), if_neg hd, Int.toNat_natCast, if_pos hE]
        rw [e1]
        exact program_sin p q B G S hS k j d e w h ha hd1 hd2 hE
  · have e1 : progT S b i d e = (S, askE S b i) := by unfold progT; rw [if_pos ha]
    rw [e1]
    exact program_ask p q B G S b i d e w h ha
end Go.Proofs.Ythippbckjldijaa
