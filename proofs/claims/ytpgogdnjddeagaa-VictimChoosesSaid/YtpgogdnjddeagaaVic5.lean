/-
  Layer 15's laws: the block that is found, and the spread.
-/
import Derived.Test.YtpgogdnjddeagaaVic4
--import Derived.Test.Zdbg
namespace Go.Proofs.Ytpgogdnjddeagaa
set_option linter.unusedSimpArgs false
set_option linter.unusedVariables false
open Go.RowKit Go.WideShapes Go.ChangeShapes Go.ChangeAt Go.Deep W

def aheadF (L : List (Int × Int)) (lv : Int → Int) (a b : Int) : Bool := if lv a ≠ lv b then decide (lv a < lv b) else decide (sndZ L a < sndZ L b)
theorem aheadC_eq (L : List (Int × Int)) (S : Spots) (nb : Nat) : aheadC L S nb = aheadF L (lvZ S nb) := by funext a b; rfl
theorem firstK_none (may : Int → Bool) (ahead : Int → Int → Bool) : ∀ n : Nat, firstK may ahead n = -1 → ∀ b : Nat, b < n → may b = false
  | 0, _, b, h => by omega
  | n + 1, h, b, hb => by
    have hbd := firstK_bd may ahead n
    rw [firstK] at h
    split at h
    · omega
    · rename_i hc
      by_cases e : b = n
      · subst e
        cases hm : may b with
        | false => rfl
        | true => exact absurd ⟨hm, .inl h⟩ hc
      · exact firstK_none may ahead n h b (by omega)
theorem firstK_may (may : Int → Bool) (ahead : Int → Int → Bool) : ∀ n : Nat, firstK may ahead n ≠ -1 → may (firstK may ahead n) = true
  | 0, h => absurd rfl h
  | n + 1, h => by
    rw [firstK] at h ⊢
    split
    · rename_i hc; exact hc.1
    · rename_i hc
      rw [if_neg hc] at h
      exact firstK_may may ahead n h
theorem firstK_best (may : Int → Bool) (ahead : Int → Int → Bool) (hi : ∀ a, ahead a a = false) (ht : ∀ a b c, ahead a b = false → ahead c b = true → ahead a c = false) : ∀ n : Nat, ∀ b : Nat, b < n → may b = true → ahead b (firstK may ahead n) = false
  | 0, b, h, _ => by omega
  | n + 1, b, hb, hm => by
    rw [firstK]
    by_cases hc : may (n : Int) = true ∧ (firstK may ahead n = -1 ∨ ahead n (firstK may ahead n) = true)
    · rw [if_pos hc]
      by_cases e : b = n
      · subst e; exact hi _
      · rcases hc.2 with h1 | h1
        · have := firstK_none may ahead n h1 b (by omega)
          rw [this] at hm
          cases hm
        · exact ht _ _ _ (firstK_best may ahead hi ht n b (by omega) hm) h1
    · rw [if_neg hc]
      by_cases e : b = n
      · subst e
        cases ha : ahead b (firstK may ahead b) with
        | false => rfl
        | true => exact absurd ⟨hm, .inr ha⟩ hc
      · exact firstK_best may ahead hi ht n b (by omega) hm
/-- blocks that there aren't are passed over -/
theorem firstK_more (may : Int → Bool) (ahead : Int → Int → Bool) (n : Nat) (h : ∀ b : Nat, n ≤ b → may b = false) : ∀ k : Nat, firstK may ahead (n + k) = firstK may ahead n
  | 0 => rfl
  | k + 1 => by
    rw [← Nat.add_assoc, firstK, if_neg (fun hc => by have h1 := h (n + k) (by omega); rw [h1] at hc; exact absurd hc.1 (by decide))]
    exact firstK_more may ahead n h k
theorem firstK_all (may : Int → Bool) (ahead : Int → Int → Bool) (n : Nat) (hn : n ≤ 256) (h : ∀ b : Nat, n ≤ b → may b = false) : firstK may ahead 256 = firstK may ahead n := by
  have := firstK_more may ahead n h (256 - n)
  rwa [show n + (256 - n) = 256 by omega] at this
theorem fstZ_out (L : List (Int × Int)) (b : Nat) (h : L.length ≤ b) : fstZ L b = 0 := by unfold fstZ; rw [if_neg (by omega)]
theorem fstZ_in (L : List (Int × Int)) (b : Nat) (h : b < L.length) : fstZ L b = (L.getD b (0, 0)).1 := by unfold fstZ; rw [if_pos (by omega), Int.toNat_natCast]
theorem sndZ_in (L : List (Int × Int)) (b : Nat) (h : b < L.length) : sndZ L b = (L.getD b (0, 0)).2 := by unfold sndZ; rw [if_pos (by omega), Int.toNat_natCast]
theorem good_out (L : List (Int × Int)) (skip : List Int) (b : Nat) (h : L.length ≤ b) : goodB L skip b = false := by unfold goodB; rw [fstZ_out L b h]; rfl
theorem used_out (L : List (Int × Int)) (skip : List Int) (b : Nat) (h : L.length ≤ b) : usedB L skip b = false := by unfold usedB; rw [fstZ_out L b h]; rfl
def StOk (L : List (Int × Int)) : Prop := ∀ i, i < L.length → (1 ≤ (L.getD i (0, 0)).1 ∧ (L.getD i (0, 0)).1 ≤ 3) ∧ 0 ≤ (L.getD i (0, 0)).2 ∧ (L.getD i (0, 0)).2 ≤ 999
theorem StOk.snd {L : List (Int × Int)} (h : StOk L) : SndOk L := fun b => by
  unfold sndZ
  split
  · rename_i hb
    have := (h b.toNat (by omega)).2
    omega
  · omega
theorem StOk.fst {L : List (Int × Int)} (h : StOk L) (b : Int) : 0 ≤ fstZ L b ∧ fstZ L b ≤ 3 := by
  unfold fstZ
  split
  · rename_i hb
    have := (h b.toNat (by omega)).1
    omega
  · omega
theorem poolK_ok (L : List BQ) (n k : Nat) (h1 : k ≤ L.length) (h2 : k ≤ n) : StOk (poolK L n k) := fun i hi => by
  have hl := genK_length toP (1, 0) L n k h1 h2
  have e : (poolK L n k).getD i (0, 0) = _ := genK_at toP (1, 0) L n k i h1 h2 (by unfold poolK at hi; omega) (0, 0)
  rw [e]
  split
  · unfold toP; dsimp only; omega
  · dsimp only; omega
theorem sp_first (L : List (Int × Int)) (hL : StOk L) : ∀ k : Nat, k ≤ L.length → (firstK (goodB L []) (lessB L) k = -1 ↔ firstK (goodB L []) (moreB L) k = -1) ∧ (spK L k).1 = (if firstK (goodB L []) (lessB L) k = -1 then -1 else sndZ L (firstK (goodB L []) (lessB L) k)) ∧ (spK L k).2 = (if firstK (goodB L []) (moreB L) k = -1 then 0 else sndZ L (firstK (goodB L []) (moreB L) k))
  | 0, _ => by simp [firstK, spK]
  | k + 1, hk => by
    obtain ⟨h0, h1, h2⟩ := sp_first L hL k (by omega)
    have hs := hL.snd
    have hw := hL k (by omega)
    have hx := fstZ_in L k (by omega)
    have hy := sndZ_in L k (by omega)
    rw [firstK, firstK, spK]
    have hle : ∀ g, lessB L k g = decide (sndZ L k < sndZ L g) := fun _ => rfl
    have hmo : ∀ m, moreB L k m = decide (sndZ L k > sndZ L m) := fun _ => rfl
    rw [hle, hmo]
    by_cases e : (L.getD k (0, 0)).1 = 3
    · have hg : goodB L [] (k : Int) = false := by unfold goodB; rw [hx, e]; rfl
      rw [hg, if_neg (fun h => absurd h.1 (by decide)), if_neg (fun h => absurd h.1 (by decide)), if_pos e]
      exact ⟨h0, h1, h2⟩
    · have hg : goodB L [] (k : Int) = true := by
        have h3 := hw.1
        have h4 : (L.getD k (0, 0)).1 = 1 ∨ (L.getD k (0, 0)).1 = 2 := by omega
        unfold goodB
        rw [hx]
        rcases h4 with e1 | e1 <;> rw [e1] <;> rfl
      rw [hg, if_neg e, ← hy]
      have hws : 0 ≤ sndZ L k := by rw [hy]; exact hw.2.1
      generalize firstK (goodB L []) (lessB L) k = g at *
      generalize firstK (goodB L []) (moreB L) k = m at *
      have hgs := hs g
      have hms := hs m
      have hkk : ¬ (k : Int) = -1 := by omega
      by_cases hg1 : g = -1
      · have hm1 := h0.1 hg1
        rw [if_pos hg1] at h1
        rw [if_pos hm1] at h2
        have G1 : (if true = true ∧ (g = -1 ∨ decide (sndZ L k < sndZ L g) = true) then (k : Int) else g) = k := if_pos ⟨rfl, .inl hg1⟩
        have M1 : (if true = true ∧ (m = -1 ∨ decide (sndZ L k > sndZ L m) = true) then (k : Int) else m) = k := if_pos ⟨rfl, .inl hm1⟩
        rw [h1, h2, G1, M1, if_neg hkk, if_neg hkk]
        refine ⟨Iff.rfl, ?_, ?_⟩
        · rw [if_pos (.inl (by omega))]
        · dsimp only
          split <;> omega
      · have hm1 : m ≠ -1 := fun h => hg1 (h0.2 h)
        rw [if_neg hg1] at h1
        rw [if_neg hm1] at h2
        rw [h1, h2]
        have G1 : (sndZ L k < sndZ L g ∧ (if true = true ∧ (g = -1 ∨ decide (sndZ L k < sndZ L g) = true) then (k : Int) else g) = k) ∨ (¬ sndZ L k < sndZ L g ∧ (if true = true ∧ (g = -1 ∨ decide (sndZ L k < sndZ L g) = true) then (k : Int) else g) = g) := by
          by_cases hlt : sndZ L k < sndZ L g
          · exact .inl ⟨hlt, if_pos ⟨rfl, .inr (decide_eq_true hlt)⟩⟩
          · exact .inr ⟨hlt, if_neg (fun h => h.2.elim hg1 (fun h3 => hlt (of_decide_eq_true h3)))⟩
        have M1 : (sndZ L k > sndZ L m ∧ (if true = true ∧ (m = -1 ∨ decide (sndZ L k > sndZ L m) = true) then (k : Int) else m) = k) ∨ (¬ sndZ L k > sndZ L m ∧ (if true = true ∧ (m = -1 ∨ decide (sndZ L k > sndZ L m) = true) then (k : Int) else m) = m) := by
          by_cases hlt : sndZ L k > sndZ L m
          · exact .inl ⟨hlt, if_pos ⟨rfl, .inr (decide_eq_true hlt)⟩⟩
          · exact .inr ⟨hlt, if_neg (fun h => h.2.elim hm1 (fun h3 => hlt (of_decide_eq_true h3)))⟩
        generalize (if true = true ∧ (g = -1 ∨ decide (sndZ L k < sndZ L g) = true) then (k : Int) else g) = G' at *
        generalize (if true = true ∧ (m = -1 ∨ decide (sndZ L k > sndZ L m) = true) then (k : Int) else m) = M' at *
        dsimp only
        have hG : G' ≠ -1 := by rcases G1 with ⟨_, rfl⟩ | ⟨_, rfl⟩; exact hkk; exact hg1
        have hM : M' ≠ -1 := by rcases M1 with ⟨_, rfl⟩ | ⟨_, rfl⟩; exact hkk; exact hm1
        rw [if_neg hG, if_neg hM]
        refine ⟨⟨fun h => absurd h hG, fun h => absurd h hM⟩, ?_, ?_⟩
        · rcases G1 with ⟨hlt, rfl⟩ | ⟨hlt, rfl⟩
          · rw [if_pos (.inr hlt)]
          · rw [if_neg (fun h => by rcases h with h3 | h3 <;> omega)]
        · rcases M1 with ⟨hlt, rfl⟩ | ⟨hlt, rfl⟩
          · rw [if_pos hlt]
          · rw [if_neg (by omega)]
theorem cold_spread (L : List (Int × Int)) (hL : StOk L) (hn : L.length ≤ 256) (lv : Int) (h1 : 1 ≤ lv) :
    ((spreadZ L).2 - (spreadZ L).1 < lv → (coldZ L lv []).2 = false) ∧ ((coldZ L lv []).2 = true → fstZ L (coldZ L lv []).1 = 2 ∧ sndZ L (coldZ L lv []).1 = (spreadZ L).1) ∧ 0 ≤ (spreadZ L).1 ∧ (spreadZ L).1 ≤ 1000000 ∧ 0 ≤ (spreadZ L).2 ∧ (spreadZ L).2 ≤ 1000000 := by
  obtain ⟨h2, h3, h4⟩ := sp_first L hL L.length (Nat.le_refl _)
  have e1 : lowK L [] = firstK (goodB L []) (lessB L) L.length := firstK_all _ _ _ hn (fun b hb => good_out L [] b hb)
  have e2 : highK L [] = firstK (goodB L []) (moreB L) L.length := firstK_all _ _ _ hn (fun b hb => good_out L [] b hb)
  rw [← e1] at h2 h3
  rw [← e2] at h2 h4
  have b1 := hL.snd (lowK L [])
  have b2 := hL.snd (highK L [])
  have hsp : (spreadZ L).1 = (if lowK L [] = -1 then 0 else sndZ L (lowK L [])) ∧ (spreadZ L).2 = (if highK L [] = -1 then 0 else sndZ L (highK L [])) := by
    unfold spreadZ
    dsimp only
    rw [h3, h4]
    refine ⟨?_, rfl⟩
    by_cases h : lowK L [] = -1
    · rw [if_pos h, if_pos h]; rfl
    · rw [if_neg h, if_neg h, if_neg (by omega)]
  rw [hsp.1, hsp.2]
  unfold coldZ
  by_cases hlo : lowK L [] = -1
  · have hhi := h2.1 hlo
    rw [if_pos hlo, if_pos hhi, if_pos (.inr (.inl hlo))]
    exact ⟨fun _ => rfl, fun h => absurd (show false = true from h) (by decide), by omega, by omega, by omega, by omega⟩
  · have hhi : highK L [] ≠ -1 := fun h => hlo (h2.2 h)
    rw [if_neg hlo, if_neg hhi]
    by_cases hc : lv < 1 ∨ lowK L [] = -1 ∨ fstZ L (lowK L []) ≠ 2 ∨ sndZ L (highK L []) - sndZ L (lowK L []) < lv
    · rw [if_pos hc]
      exact ⟨fun _ => rfl, fun h => absurd (show false = true from h) (by decide), by omega, by omega, by omega, by omega⟩
    · rw [if_neg hc]
      refine ⟨fun h => absurd (.inr (.inr (.inr h))) hc, fun _ => ⟨?_, rfl⟩, by omega, by omega, by omega, by omega⟩
      by_cases h : fstZ L (lowK L []) = 2
      · exact h
      · exact absurd (.inr (.inr (.inl h))) hc
theorem aheadF_irr (L : List (Int × Int)) (lv : Int → Int) (a : Int) : aheadF L lv a a = false := by unfold aheadF; simp
theorem aheadF_tr (L : List (Int × Int)) (lv : Int → Int) (a b c : Int) (h1 : aheadF L lv a b = false) (h2 : aheadF L lv c b = true) : aheadF L lv a c = false := by
  unfold aheadF at *
  by_cases e1 : lv a = lv b
  · rw [if_neg (fun h => h e1)] at h1
    by_cases e2 : lv c = lv b
    · rw [if_neg (fun h => h e2)] at h2
      rw [if_neg (fun h => h (e1.trans e2.symm))]
      simp at *; omega
    · rw [if_pos e2] at h2
      rw [if_pos (by omega)]
      simp at *; omega
  · rw [if_pos e1] at h1
    by_cases e2 : lv c = lv b
    · rw [if_neg (fun h => h e2)] at h2
      rw [if_pos (by omega)]
      simp at *; omega
    · rw [if_pos e2] at h2
      simp at h1 h2
      rw [if_pos (by omega)]
      simp; omega
/-- what is chosen has the least live pages -/
theorem choose_least (L : List (Int × Int)) (S : Spots) (nb : Nat) (skip : List Int) :
    ((chooseZ L S nb skip).2 = true → usedB L skip (chooseZ L S nb skip).1 = true ∧ ∀ b : Nat, b < 256 → usedB L skip b = true → lvZ S nb (chooseZ L S nb skip).1 ≤ lvZ S nb b) ∧ ((chooseZ L S nb skip).2 = false → ∀ b : Nat, b < 256 → usedB L skip b = false) := by
  have hb := firstK_best (usedB L skip) (aheadC L S nb) (by rw [aheadC_eq]; exact aheadF_irr _ _) (by rw [aheadC_eq]; exact aheadF_tr _ _) 256
  have hm := firstK_may (usedB L skip) (aheadC L S nb) 256
  have hn := firstK_none (usedB L skip) (aheadC L S nb) 256
  unfold chooseZ
  rw [show firstK (usedB L skip) (aheadC L S nb) 256 = chooseK L S nb skip from rfl] at hb hm hn
  generalize chooseK L S nb skip = k at *
  by_cases hk : k = -1
  · rw [if_pos hk]
    exact ⟨fun h => absurd (show false = true from h) (by decide), fun _ => hn hk⟩
  · rw [if_neg hk]
    refine ⟨fun _ => ⟨hm hk, fun b hb1 hb2 => ?_⟩, fun h => absurd (show true = false from h) (by decide)⟩
    have h1 := hb b hb1 hb2
    rw [aheadC_eq] at h1
    unfold aheadF at h1
    dsimp only
    by_cases e : lvZ S nb b = lvZ S nb k
    · omega
    · rw [if_pos e] at h1
      have := of_decide_eq_false h1
      omega
end Go.Proofs.Ytpgogdnjddeagaa
