/-
  Layer 4: what the document's Read answers (no walk here).
-/
import Derived.Test.YtmhppjgclaahnaaCur8
import Derived.Lib.OwnKind
namespace Go.Proofs.Ytmhppjgclaahnaa
set_option linter.unusedSimpArgs false
set_option linter.unusedVariables false
open Go.RowKit

/-- two rows of unlike types: one grows, the other stays -/
theorem owns_kept_other {w w' : World} {B e e' n n' m m' : Nat} {v v' : Value} {xs xs' : List Value} (h : w.ownsRow B e m v n xs) (h' : w.ownsRow B e' m' v' n' xs') (he : e ≠ e') (hg : w.grownBy w' v'.ownBlock) : w'.ownsRow B e m v n xs := by
  refine ⟨h.1, ?_⟩
  rcases h.2 with h3 | ⟨g, cap', cur, hv, hb, hh, h4⟩
  · exact .inl h3
  · refine .inr ⟨g, cap', cur, hv, hb, ?_, h4⟩
    rw [hg.block g (heap_lt hh) ?_]
    · exact hh
    · intro hq
      obtain ⟨c, fz, hc⟩ := Go.Lib.ownsRow_kind h' g hq.symm
      rw [hh] at hc
      simp only [Option.some.injEq, Obj.cells.injEq] at hc
      exact he hc.2.1
/-- the text that the document's Read has left -/
def stS (s : ByteArray) (bad : Bool) : ByteArray := if bad = true then ⟨#[]⟩ else s
theorem stS_size (s : ByteArray) (bad : Bool) : (stS s bad).size ≤ s.size := by
  unfold stS
  split
  · exact Nat.zero_le _
  · exact Nat.le_refl _
def rdStep (z : (List Fld × List Int) × ByteArray × Bool) (x : Fld) : (List Fld × List Int) × ByteArray × Bool :=
  ((z.1.1 ++ [(rdF z.2.1 z.2.2 x).1], z.1.2 ++ [((stS (rdF z.2.1 z.2.2 x).2.1 (rdF z.2.1 z.2.2 x).2.2).size : Int)]), (rdF z.2.1 z.2.2 x).2)
def rdAll (m : List Fld) (s : ByteArray) : (List Fld × List Int) × ByteArray × Bool := m.foldl rdStep (([], []), s, false)
theorem rdAll_next (m : List Fld) (s : ByteArray) (k : Nat) (hk : k < m.length) : rdAll (m.take (k + 1)) s = rdStep (rdAll (m.take k) s) (m.getD k fld0) := by
  rw [take_getD m k hk]
  simp [rdAll]
theorem rdAll_out (m : List Fld) (s : ByteArray) (k : Nat) (hk : k < m.length) : (rdAll (m.take (k + 1)) s).1.1.flatMap fc = (rdAll (m.take k) s).1.1.flatMap fc ++ fc (rdF (rdAll (m.take k) s).2.1 (rdAll (m.take k) s).2.2 (m.getD k fld0)).1 := by
  rw [rdAll_next m s k hk]
  simp [rdStep]
theorem rdAll_len (s : ByteArray) : ∀ m : List Fld, (rdAll m s).1.1.length = m.length ∧ (rdAll m s).1.2.length = m.length ∧ (rdAll m s).2.1.size ≤ s.size := by
  have key : ∀ (m : List Fld) (z : (List Fld × List Int) × ByteArray × Bool), (m.foldl rdStep z).1.1.length = z.1.1.length + m.length ∧ (m.foldl rdStep z).1.2.length = z.1.2.length + m.length ∧ (m.foldl rdStep z).2.1.size ≤ z.2.1.size := by
    intro m
    induction m with
    | nil => intro z; simp
    | cons x m ih =>
      intro z
      obtain ⟨h1, h2, h3⟩ := ih (rdStep z x)
      rw [List.foldl_cons]
      refine ⟨?_, ?_, ?_⟩
      · rw [h1]; simp [rdStep]; omega
      · rw [h2]; simp [rdStep]; omega
      · exact Nat.le_trans h3 (rdF_left _ _ _)
  intro m
  have := key m (([], []), s, false)
  simpa [rdAll] using this
theorem rdTake_len (s : ByteArray) (n : Int) (h0 : 0 ≤ n) (h : n ≤ s.size) : rdTake s false n true = (s.extract 0 n.toNat, s.extract n.toNat s.size, false) := by
  unfold rdTake
  rw [if_neg (by simp), if_neg (by simp; omega)]
theorem rdTake_less (s : ByteArray) (n : Int) (ok : Bool) (h : ok = false ∨ (s.size : Int) < n) : rdTake s false n ok = (⟨#[]⟩, s, true) := by
  unfold rdTake
  rw [if_neg (by simp), if_pos h]
/-- a field of a reader that is wrong -/
theorem rdF_wrong (s : ByteArray) (x : Fld) (hk : x.k = 0 ∨ x.k = 1 ∨ x.k = 2) : rdF s true x = (⟨x.k, x.w, 0, ⟨#[]⟩⟩, s, true) := by
  obtain ⟨k, wd, n, t⟩ := x
  simp only at hk
  unfold rdF rdNum
  rw [rdTake_bad, rdTake_bad, rdText_bad]
  rcases hk with rfl | rfl | rfl <;> rfl
theorem rdF_num0 (s : ByteArray) (wd n : Int) (t : ByteArray) (h1 : 1 ≤ wd) (h8 : wd ≤ 8) (h : wd ≤ s.size) : rdF s false ⟨0, wd, n, t⟩ = (⟨0, wd, (getN (last8 (s.extract 0 wd.toNat).data.toList) : Int), ⟨#[]⟩⟩, s.extract wd.toNat s.size, false) := by
  unfold rdF rdNum
  simp only [if_pos]
  rw [decide_eq_true ⟨h1, h8⟩, rdTake_len s wd (by omega) h]
theorem rdF_less0 (s : ByteArray) (wd n : Int) (t : ByteArray) (h : wd < 1 ∨ 8 < wd ∨ (s.size : Int) < wd) : rdF s false ⟨0, wd, n, t⟩ = (⟨0, wd, 0, ⟨#[]⟩⟩, s, true) := by
  unfold rdF rdNum
  simp only [if_pos]
  rw [rdTake_less s wd _ (by by_cases h8 : 1 ≤ wd ∧ wd ≤ 8; exact .inr (by omega); exact .inl (decide_eq_false h8))]
  rfl
theorem rdF_num1 (s : ByteArray) (wd n : Int) (t : ByteArray) (h : 8 ≤ s.size) : rdF s false ⟨1, wd, n, t⟩ = (⟨1, wd, (getN (last8 (s.extract 0 8).data.toList) : Int), ⟨#[]⟩⟩, s.extract 8 s.size, false) := by
  unfold rdF rdNum
  simp only [if_pos, show ((1 : Int) = 0) = False by simp, if_false]
  rw [show decide ((1 : Int) ≤ 8 ∧ (8 : Int) ≤ 8) = true from rfl, rdTake_len s 8 (by omega) (by omega)]
  rfl
theorem rdF_less1 (s : ByteArray) (wd n : Int) (t : ByteArray) (h : s.size < 8) : rdF s false ⟨1, wd, n, t⟩ = (⟨1, wd, 0, ⟨#[]⟩⟩, s, true) := by
  unfold rdF rdNum
  simp only [if_pos, show ((1 : Int) = 0) = False by simp, if_false]
  rw [rdTake_less s 8 _ (.inr (by omega))]
  rfl
def first (s : ByteArray) : Nat := (s.data.toList.getD 0 0).toNat
theorem rdF_less2 (s : ByteArray) (wd n : Int) (t : ByteArray) (h : s.size = 0 ∨ s.size < 1 + first s) : rdF s false ⟨2, wd, n, t⟩ = (⟨2, wd, 0, ⟨#[]⟩⟩, s, true) := by
  unfold rdF
  simp only [show ((2 : Int) = 0) = False by simp, show ((2 : Int) = 1) = False by simp, if_false]
  have e : rdText s false = (⟨#[]⟩, s, true) := by
    unfold rdText
    by_cases h0 : s.size = 0
    · rw [if_pos (.inr h0)]
    · rw [if_neg (by simp [h0]), rdTake_less s _ true (.inr (by have : first s = (s.data.toList.getD 0 0).toNat := rfl; omega))]
      rfl
  rw [e]
theorem extract_two (s : ByteArray) (n : Nat) (h : n ≤ s.size) : (s.extract 0 n).extract 1 (s.extract 0 n).size = s.extract 1 n := by
  rw [← bs_of s, bsx, bsx, bsx, bs_size]
  congr 1
  rw [List.drop_zero, List.take_of_length_le (Nat.le_refl _)]
theorem rdF_text2 (s : ByteArray) (wd n : Int) (t : ByteArray) (h0 : s.size ≠ 0) (h : 1 + first s ≤ s.size) : rdF s false ⟨2, wd, n, t⟩ = (⟨2, wd, 0, s.extract 1 (1 + first s)⟩, s.extract (1 + first s) s.size, false) := by
  unfold rdF
  simp only [show ((2 : Int) = 0) = False by simp, show ((2 : Int) = 1) = False by simp, if_false]
  have e : rdText s false = (s.extract 1 (1 + first s), s.extract (1 + first s) s.size, false) := by
    unfold rdText
    rw [if_neg (by simp [h0]), show ((1 : Int) + ((s.data.toList.getD 0 0).toNat : Int)) = ((1 + first s : Nat) : Int) by unfold first; omega, rdTake_len s _ (by omega) (by omega)]
    simp only [Bool.false_eq_true, if_false, Int.toNat_natCast]
    rw [extract_two s _ h]
  rw [e]
end Go.Proofs.Ytmhppjgclaahnaa
