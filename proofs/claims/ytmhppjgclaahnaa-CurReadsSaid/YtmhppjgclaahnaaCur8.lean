/-
  Layer 4: fields that were written are read again (no walk here).
-/
import Derived.Test.YtmhppjgclaahnaaCur7
namespace Go.Proofs.Ytmhppjgclaahnaa
set_option linter.unusedSimpArgs false
set_option linter.unusedVariables false
open Go.RowKit

/-- a field whose bytes tell it -/
def BkGood (x : Fld) : Prop := (x.k = 0 ∨ x.k = 1 ∨ x.k = 2) ∧ (0 ≤ x.n ∧ x.n ≤ 18446744073709551615) ∧ (x.s.size ≤ 200 ∧ -9223372036854775808 ≤ x.w ∧ x.w ≤ 9223372036854775807) ∧ (x.k = 0 → 1 ≤ x.w ∧ x.w ≤ 8 ∧ x.n.toNat < 256 ^ x.w.toNat)
def encF (x : Fld) : List UInt8 := if x.k = 0 then putL x.n.toNat x.w.toNat else if x.k = 1 then putL x.n.toNat 8 else UInt8.ofNat x.s.size :: x.s.data.toList
theorem bsx (l : List UInt8) (i j : Nat) : (bs l).extract i j = bs ((l.take j).drop i) := by
  apply ByteArray.ext
  simp [bs, List.drop_take]
theorem rdTake_yes (a b : List UInt8) (n : Int) (h : (a.length : Int) = n) : rdTake (bs (a ++ b)) false n true = (bs a, bs b, false) := by
  subst h
  unfold rdTake
  rw [if_neg (by simp), if_neg (by rw [bs_size]; simp; omega), bsx, bsx, bs_size, Int.toNat_natCast, List.take_of_length_le (Nat.le_refl (a ++ b).length)]
  simp
theorem rdTake_no (a : List UInt8) (n : Int) (h : (a.length : Int) < n) : rdTake (bs a) false n true = (⟨#[]⟩, bs a, true) := by
  unfold rdTake
  rw [if_neg (by simp), if_pos (by rw [bs_size]; exact .inr h)]
theorem rdTake_bad (s : ByteArray) (n : Int) (ok : Bool) : rdTake s true n ok = (⟨#[]⟩, s, true) := if_pos rfl
theorem rdText_bad (s : ByteArray) : rdText s true = (⟨#[]⟩, s, true) := if_pos (.inl rfl)
theorem rdF_bad (s : ByteArray) (x : Fld) : (rdF s true x).2.2 = true := by
  unfold rdF rdNum
  rw [rdTake_bad, rdTake_bad, rdText_bad]
  split <;> (try split) <;> rfl
theorem rdText_yes (s : ByteArray) (hs : s.size ≤ 255) (b : List UInt8) : rdText (bs (UInt8.ofNat s.size :: s.data.toList ++ b)) false = (s, bs b, false) := by
  unfold rdText
  rw [if_neg (by rw [bs_size]; simp)]
  have e : ((bs (UInt8.ofNat s.size :: s.data.toList ++ b)).data.toList.getD 0 0).toNat = s.size := by
    rw [bs_toList]
    simp
    omega
  rw [e, rdTake_yes (UInt8.ofNat s.size :: s.data.toList) b (1 + (s.size : Int)) (by simp; omega)]
  simp only [Bool.false_eq_true, if_false, bsx, bs_size, List.take_of_length_le (Nat.le_refl _)]
  simp
  exact bs_of s
theorem rdText_no (s : ByteArray) (hs : s.size ≤ 255) (p : List UInt8) (c : Nat) (hp : p = (UInt8.ofNat s.size :: s.data.toList).take c) (hc : c < s.size + 1) : (rdText (bs p) false).2.2 = true := by
  unfold rdText
  cases c with
  | zero =>
    subst hp
    rw [if_pos (.inr (by rw [bs_size]; simp))]
  | succ c =>
    subst hp
    rw [List.take_succ_cons, if_neg (by rw [bs_size]; simp)]
    have e : ((bs (UInt8.ofNat s.size :: s.data.toList.take c)).data.toList.getD 0 0).toNat = s.size := by
      rw [bs_toList]
      simp
      omega
    rw [e, rdTake_no _ _ (by simp; omega)]
theorem rdF_yes (x : Fld) (hx : BkGood x) (b : List UInt8) : ∃ y, rdF (bs (encF x ++ b)) false x = (y, bs b, false) ∧ y.k = x.k ∧ (x.k = 2 → y.s = x.s) ∧ (x.k ≠ 2 → y.n = x.n) := by
  obtain ⟨k, wd, n, s⟩ := x
  obtain ⟨hk, ⟨n0, n1⟩, hs, hw⟩ := hx
  simp only at *
  unfold rdF encF rdNum
  rcases hk with rfl | rfl | rfl
  · obtain ⟨w1, w8, hn⟩ := hw rfl
    simp only [if_pos]
    rw [decide_eq_true ⟨w1, w8⟩, rdTake_yes _ b wd (by simp; omega)]
    refine ⟨_, rfl, rfl, by simp, fun _ => ?_⟩
    show (getN (last8 (putL n.toNat wd.toNat)) : Int) = n
    rw [last8_short (by simp; omega), getN_putL, Nat.mod_eq_of_lt hn]
    omega
  · simp only [if_pos, show ((1 : Int) = 0) = False by simp, if_false]
    rw [show decide ((1 : Int) ≤ 8 ∧ (8 : Int) ≤ 8) = true from rfl, rdTake_yes _ b 8 (by simp)]
    refine ⟨_, rfl, rfl, by simp, fun _ => ?_⟩
    show (getN (last8 (putL n.toNat 8)) : Int) = n
    rw [last8_short (by simp), getN_putL, Nat.mod_eq_of_lt (by omega)]
    omega
  · simp only [show ((2 : Int) = 0) = False by simp, show ((2 : Int) = 1) = False by simp, if_false]
    rw [rdText_yes s (by omega) b]
    exact ⟨_, rfl, rfl, fun _ => rfl, fun h => absurd rfl h⟩
theorem rdF_no (x : Fld) (hx : BkGood x) (c : Nat) (hc : c < (encF x).length) : (rdF (bs ((encF x).take c)) false x).2.2 = true := by
  obtain ⟨k, wd, n, s⟩ := x
  obtain ⟨hk, ⟨n0, n1⟩, hs, hw⟩ := hx
  unfold rdF encF rdNum at *
  simp only at *
  rcases hk with rfl | rfl | rfl
  · obtain ⟨w1, w8, hn⟩ := hw rfl
    simp only [if_pos] at *
    rw [decide_eq_true ⟨w1, w8⟩, rdTake_no _ wd (by simp at hc ⊢; omega)]
  · simp only [if_pos, show ((1 : Int) = 0) = False by simp, if_false] at *
    rw [show decide ((1 : Int) ≤ 8 ∧ (8 : Int) ≤ 8) = true from rfl, rdTake_no _ 8 (by simp at hc ⊢; omega)]
  · simp only [show ((2 : Int) = 0) = False by simp, show ((2 : Int) = 1) = False by simp, if_false] at *
    exact rdText_no s (by omega) _ c rfl (by simp at hc; exact hc)
/-- what the reader of a part has, field by field -/
def CutAt (m : List Fld) (k : Nat) (s : ByteArray) (bad : Bool) : Prop := bad = true ∨ (bad = false ∧ ∃ c, c < ((m.drop k).flatMap encF).length ∧ s = bs (((m.drop k).flatMap encF).take c))
theorem CutAt.end {m : List Fld} {s : ByteArray} {bad : Bool} (h : CutAt m m.length s bad) : bad = true := by
  rcases h with h | ⟨_, c, h, _⟩
  · exact h
  · simp at h
theorem drop_enc (m : List Fld) (k : Nat) (h : k < m.length) : (m.drop k).flatMap encF = encF (m.getD k fld0) ++ (m.drop (k + 1)).flatMap encF := by
  rw [List.drop_eq_getElem_cons h, List.flatMap_cons]
  simp [List.getD, h]
theorem CutAt.next {m : List Fld} {k : Nat} {s : ByteArray} {bad : Bool} (h : CutAt m k s bad) (hk : k < m.length) (hg : ∀ x ∈ m, BkGood x) :
    CutAt m (k + 1) (rdF s bad (m.getD k fld0)).2.1 (rdF s bad (m.getD k fld0)).2.2 := by
  rcases h with rfl | ⟨rfl, c, hc, rfl⟩
  · exact .inl (rdF_bad _ _)
  · rw [drop_enc m k hk] at hc ⊢
    have hx := hg _ (getD_mem m k hk)
    generalize m.getD k fld0 = x at *
    by_cases h : c < (encF x).length
    · rw [List.take_append_of_le_length (by omega)]
      exact .inl (rdF_no x hx c h)
    · rw [List.take_append, List.take_of_length_le (by omega)]
      obtain ⟨y, hy, -⟩ := rdF_yes x hx (((m.drop (k + 1)).flatMap encF).take (c - (encF x).length))
      rw [hy]
      exact .inr ⟨rfl, c - (encF x).length, by rw [List.length_append] at hc; omega, rfl⟩
theorem rdF_at {m : List Fld} {k : Nat} (hk : k < m.length) (hg : ∀ x ∈ m, BkGood x) : ∃ y, rdF (bs ((m.drop k).flatMap encF)) false (m.getD k fld0) = (y, bs ((m.drop (k + 1)).flatMap encF), false) ∧ y.k = (m.getD k fld0).k ∧ ((m.getD k fld0).k = 2 → y.s = (m.getD k fld0).s) ∧ ((m.getD k fld0).k ≠ 2 → y.n = (m.getD k fld0).n) := by
  rw [drop_enc m k hk]
  exact rdF_yes _ (hg _ (getD_mem m k hk)) _
theorem wrF_enc (l : List UInt8) (x : Fld) (hx : BkGood x) : wrF l false x = (l ++ encF x, false) := by
  obtain ⟨k, wd, n, s⟩ := x
  obtain ⟨hk, ⟨n0, n1⟩, hs, hw⟩ := hx
  unfold wrF encF wrL wrB fitsB
  simp only at *
  rcases hk with rfl | rfl | rfl
  · obtain ⟨w1, w8, hn⟩ := hw rfl
    simp [putS, w1, w8, hn]
  · have : n.toNat < 256 ^ 8 := by omega
    simp [putS, this]
  · have e : decide (s.size ≤ 255) = true := decide_eq_true (by omega)
    rw [putS_one s.size (by omega)]
    simp [e]
theorem wrFs_enc : ∀ m : List Fld, (∀ x ∈ m, BkGood x) → wrFs m = (m.flatMap encF, false) := by
  have key : ∀ (m : List Fld) (l : List UInt8), (∀ x ∈ m, BkGood x) → m.foldl (fun z x => wrF z.1 z.2 x) (l, false) = (l ++ m.flatMap encF, false) := by
    intro m
    induction m with
    | nil => intro l _; simp
    | cons x m ih =>
      intro l h
      rw [List.foldl_cons]
      simp only
      rw [wrF_enc l x (h x (by simp)), ih _ (fun y hy => h y (by simp [hy]))]
      simp
  intro m h
  have := key m [] h
  simpa [wrFs] using this
theorem rdTake_left (s : ByteArray) (bad : Bool) (n : Int) (ok : Bool) : (rdTake s bad n ok).2.1.size ≤ s.size := by
  unfold rdTake
  split
  · exact Nat.le_refl _
  · split
    · exact Nat.le_refl _
    · simp only [ByteArray.size_extract]
      omega
theorem rdF_left (s : ByteArray) (bad : Bool) (x : Fld) : (rdF s bad x).2.1.size ≤ s.size := by
  unfold rdF
  split
  · exact rdTake_left _ _ _ _
  · split
    · exact rdTake_left _ _ _ _
    · unfold rdText
      split
      · exact Nat.le_refl _
      · exact rdTake_left _ _ _ _
theorem enc_drop (m : List Fld) (k : Nat) : ((m.drop k).flatMap encF).length ≤ (m.flatMap encF).length := by
  have : m.flatMap encF = (m.take k).flatMap encF ++ (m.drop k).flatMap encF := by rw [← List.flatMap_append, List.take_append_drop]
  rw [this, List.length_append]
  omega
theorem enc_len (m : List Fld) (hg : ∀ x ∈ m, BkGood x) (h : m.length ≤ 20) : (m.flatMap encF).length ≤ 6000 := by
  have := wrFs_len m
  rw [wrFs_enc m hg] at this
  simp only at this
  omega
theorem CutAt.start (m : List Fld) (c : Nat) (h : c < (m.flatMap encF).length) : CutAt m 0 (bs ((m.flatMap encF).take c)) false := .inr ⟨rfl, c, h, rfl⟩
end Go.Proofs.Ytmhppjgclaahnaa
