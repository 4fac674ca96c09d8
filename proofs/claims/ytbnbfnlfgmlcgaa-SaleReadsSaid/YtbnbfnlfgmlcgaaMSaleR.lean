/-
  Layer 25: a register of bytes: plain.
-/
import Derived.Test.YtbnbfnlfgmlcgaaMSale
import Derived.Test.YtbnbfnlfgmlcgaaRQP
--import Derived.Test.Zdbg
namespace Go.Proofs.Ytbnbfnlfgmlcgaa
set_option linter.unusedSimpArgs false
set_option linter.unusedVariables false
open Go.RowKit Go.WideShapes Go.ChangeShapes Go.ChangeAt Go.Deep

/-- the transaction of bytes -/
def txR (l : List UInt8) : TxM := ⟨0, (vN true l 1 : Int), (vN true (l.drop 1) 4 : Int), (vN true (l.drop 5) 4 : Int), vI true (l.drop 9), vI true (l.drop 17), decide (vN true (l.drop 25) 1 = 1), poL true (l.drop 26)⟩
def setT (t : TxM) : Bool := if t.kind = 1 ∧ t.void = false then decide (0 ≤ t.left ∧ t.left ≤ t.amt) else (decide (t.left = 0) && (decide (t.kind = 1) || !t.void))
def txG (l : List UInt8) : Bool := decide (26 ≤ l.length) && (decide (vN true (l.drop 25) 1 ≤ 1) && (poOk true (l.drop 26) && (rightT (txR l) && setT (txR l))))
def txRest (l : List UInt8) : List UInt8 := l.drop (27 + 10 * ((l.drop 26).getD 0 0).toNat)
theorem gt_in64 (s : ByteArray) : inR (wrap64 (gt s)) := by unfold inR wrap64; omega
theorem poL_ok (ok : Bool) (l : List UInt8) : (poL ok l).length ≤ 8 ∧ ∀ x ∈ poL ok l, LnOk x := by
  unfold poL
  split
  · next h =>
    unfold poOk at h
    simp only [Bool.and_eq_true, decide_eq_true_eq] at h
    refine ⟨by rw [readL_len]; exact h.2.2.1, fun x hx => ?_⟩
    unfold readL at hx
    obtain ⟨i, -, rfl⟩ := List.mem_map.1 hx
    exact ⟨gt_in64 _, gt_in64 _⟩
  · exact ⟨Nat.zero_le _, fun x hx => by cases hx⟩
theorem txR_ok (l : List UInt8) : TxOk (txR l) := by
  have h1 := vN_lt true l 1
  have h2 := vN_lt true (l.drop 1) 4
  have h3 := vN_lt true (l.drop 5) 4
  have h4 := poL_ok true (l.drop 26)
  refine ⟨by unfold txR inR; dsimp only; omega, by unfold txR; dsimp only; omega, by unfold txR inR; dsimp only; omega, by unfold txR inR; dsimp only; omega, vI_in _ _, vI_in _ _, ?_, h4.2⟩
  show (poL true (l.drop 26)).length ≤ 1000
  omega
theorem setT_parts {t : TxM} (h : setT t = true) : leftT t = true ∧ (t.void = true → t.kind = 1) := by
  unfold setT at h
  unfold leftT
  split at h
  · next hc => exact ⟨by rw [if_pos hc]; exact h, fun hv => hc.1⟩
  · next hc =>
    simp only [Bool.and_eq_true, Bool.or_eq_true, decide_eq_true_eq, Bool.not_eq_true'] at h
    refine ⟨by rw [if_neg hc]; exact decide_eq_true h.1, fun hv => ?_⟩
    rcases h.2 with h2 | h2
    · exact h2
    · rw [hv] at h2; cases h2
theorem txG_parts {l : List UInt8} (h : txG l = true) : 26 ≤ l.length ∧ vN true (l.drop 25) 1 ≤ 1 ∧ poOk true (l.drop 26) = true ∧ rightT (txR l) = true ∧ setT (txR l) = true := by
  unfold txG at h
  simp only [Bool.and_eq_true, decide_eq_true_eq] at h
  exact h
theorem txG_kept {l : List UInt8} (h : txG l = true) (n : Int) (hn : inR n) : KeptT { txR l with num := n } := by
  obtain ⟨-, -, -, h4, h5⟩ := txG_parts h
  obtain ⟨h6, h7⟩ := setT_parts h5
  have h0 := txR_ok l
  exact ⟨⟨hn, h0.kind, h0.shift, h0.ref, h0.amt, h0.left, h0.few, h0.L⟩, h4, h6, h7⟩
/-- so many transactions of bytes, behind others -/
def rdX : Nat → Int → List UInt8 → List TxM → Option (List TxM × List UInt8)
  | 0, _, l, M => some (M, l)
  | k + 1, x, l, M => if txG l = true then rdX k (x + 1) (txRest l) (M ++ [{ txR l with num := x }]) else none
theorem rdX_yes {k : Nat} {x : Int} {l : List UInt8} {M : List TxM} (h : txG l = true) : rdX (k + 1) x l M = rdX k (x + 1) (txRest l) (M ++ [{ txR l with num := x }]) := if_pos h
theorem rdX_no {k : Nat} {x : Int} {l : List UInt8} {M : List TxM} (h : ¬ txG l = true) : rdX (k + 1) x l M = none := if_neg h
def hdX (t : List UInt8) : Nat := vN true t 5
def hdC (t : List UInt8) : Nat := vN true (t.drop 5) 2
def hxOk (kp : Int) (x n : Nat) : Prop := 1 ≤ x ∧ x ≤ 4294967296 ∧ (n : Int) ≤ kp ∧ (n : Int) ≤ (x : Int) - 1
instance (kp : Int) (x n : Nat) : Decidable (hxOk kp x n) := inferInstanceAs (Decidable (_ ∧ _ ∧ _ ∧ _))
/-- a register of bytes: its transactions, what is left -/
def regR (kp : Int) (t : List UInt8) : Option (List TxM × List UInt8) := if 7 ≤ t.length ∧ hxOk kp (hdX t) (hdC t) then rdX (hdC t) ((hdX t : Int) - (hdC t : Int)) (t.drop 7) [] else none
/-- so many kept ones, that end ahead of a number -/
structure Kept (M : List TxM) (x : Int) : Prop where
  ok : ∀ s ∈ M, KeptT s
  nums : ∀ i, i < M.length → (M.getD i tx0).num = x - (M.length : Int) + (i : Int)
theorem Kept.nil (x : Int) : Kept [] x := ⟨fun s hs => (by cases hs), fun i hi => absurd hi (Nat.not_lt_zero i)⟩
theorem Kept.snoc {M : List TxM} {x : Int} {t : TxM} (h : Kept M x) (ht : KeptT t) (hn : t.num = x) : Kept (M ++ [t]) (x + 1) := by
  refine ⟨fun s hs => ?_, fun i hi => ?_⟩
  · rcases List.mem_append.1 hs with hs | hs
    · exact h.ok s hs
    · rw [List.mem_singleton.1 hs]; exact ht
  · rw [List.length_append, List.length_singleton] at hi ⊢
    by_cases hl : i < M.length
    · rw [show (M ++ [t]).getD i tx0 = M.getD i tx0 by simp only [List.getD]; rw [List.getElem?_append_left hl], h.nums i hl]
      omega
    · have he : i = M.length := by omega
      subst he
      rw [show (M ++ [t]).getD M.length tx0 = t by simp [List.getD], hn]
      omega
theorem rdX_some : ∀ (k : Nat) (x : Int) (l : List UInt8) (M M' : List TxM) (r : List UInt8), rdX k x l M = some (M', r) → Kept M x → 0 ≤ x → x + k ≤ 4294967296 → M'.length = M.length + k ∧ Kept M' (x + k)
  | 0, x, l, M, M', r, h, hM, h0, h1 => by
    unfold rdX at h
    cases h
    exact ⟨rfl, by rw [show x + ((0 : Nat) : Int) = x by omega]; exact hM⟩
  | k + 1, x, l, M, M', r, h, hM, h0, h1 => by
    by_cases hg : txG l = true
    · rw [rdX_yes hg] at h
      obtain ⟨h2, h3⟩ := rdX_some k (x + 1) _ _ _ _ h (hM.snoc (txG_kept hg x (by unfold inR; omega)) rfl) (by omega) (by omega)
      rw [List.length_append, List.length_singleton] at h2
      exact ⟨by omega, by rw [show x + ((k + 1 : Nat) : Int) = x + 1 + (k : Int) by omega]; exact h3⟩
    · rw [rdX_no hg] at h; cases h
theorem regR_some {kp : Int} {t : List UInt8} {M : List TxM} {r : List UInt8} (h : regR kp t = some (M, r)) : M.length = hdC t ∧ Kept M (hdX t : Int) ∧ hxOk kp (hdX t) (hdC t) := by
  unfold regR at h
  split at h
  · next hc =>
    obtain ⟨h7, h1, h2, h3, h4⟩ := hc
    obtain ⟨e1, e2⟩ := rdX_some _ _ _ _ _ _ h (Kept.nil _) (by omega) (by omega)
    rw [List.length_nil, Nat.zero_add] at e1
    rw [show ((hdX t : Int) - (hdC t : Int)) + (hdC t : Int) = (hdX t : Int) by omega] at e2
    exact ⟨e1, e2, h1, h2, h3, h4⟩
  · cases h
/-- what readTx reads ahead of the lines -/
theorem tx_all (ok : Bool) (l : List UInt8) : ∃ (k s r v : Nat) (am le : Int) (o1 o2 o3 o4 o5 o6 : Bool) (l1 l2 l3 l4 l5 l6 : List UInt8),
    k = vN ok l 1 ∧ o1 = (ok && decide (1 ≤ l.length)) ∧ l1 = l.drop 1 ∧ s = vN o1 l1 4 ∧ o2 = (o1 && decide (4 ≤ l1.length)) ∧ l2 = l1.drop 4 ∧ r = vN o2 l2 4 ∧ o3 = (o2 && decide (4 ≤ l2.length)) ∧ l3 = l2.drop 4 ∧
    am = vI o3 l3 ∧ o4 = (o3 && decide (8 ≤ l3.length)) ∧ l4 = l3.drop 8 ∧ le = vI o4 l4 ∧ o5 = (o4 && decide (8 ≤ l4.length)) ∧ l5 = l4.drop 8 ∧ v = vN o5 l5 1 ∧ o6 = (o5 && decide (1 ≤ l5.length)) ∧ l6 = l5.drop 1 ∧
    k < 256 ∧ s < 4294967296 ∧ r < 4294967296 ∧ v < 256 ∧ inR am ∧ inR le ∧
    (o6 = true → ok = true ∧ 26 ≤ l.length ∧ v = vN true (l.drop 25) 1 ∧ l6 = l.drop 26 ∧ txR l = ⟨0, (k : Int), (s : Int), (r : Int), am, le, decide (v = 1), poL true (l.drop 26)⟩) ∧ (o6 = false → ¬ (ok = true ∧ 26 ≤ l.length)) := by
  refine ⟨_, _, _, _, _, _, _, _, _, _, _, _, _, _, _, _, _, _, rfl, rfl, rfl, rfl, rfl, rfl, rfl, rfl, rfl, rfl, rfl, rfl, rfl, rfl, rfl, rfl, rfl, rfl, vN_lt _ _ _, vN_lt _ _ _, vN_lt _ _ _, vN_lt _ _ _, vI_in _ _, vI_in _ _, ?_, ?_⟩
  · intro h
    simp only [Bool.and_eq_true, decide_eq_true_eq, List.length_drop] at h
    obtain ⟨⟨⟨⟨⟨⟨h0, h1⟩, h2⟩, h3⟩, h4⟩, h5⟩, h6⟩ := h
    have hl : 26 ≤ l.length := by omega
    subst h0
    have e1 : decide (1 ≤ l.length) = true := decide_eq_true (by omega)
    have e2 : decide (4 ≤ (l.drop 1).length) = true := decide_eq_true (by rw [List.length_drop]; omega)
    have e3 : decide (4 ≤ (l.drop 5).length) = true := decide_eq_true (by simp only [List.length_drop]; omega)
    have e4 : decide (8 ≤ (l.drop 9).length) = true := decide_eq_true (by simp only [List.length_drop]; omega)
    have e5 : decide (8 ≤ (l.drop 17).length) = true := decide_eq_true (by simp only [List.length_drop]; omega)
    simp only [List.drop_drop, Nat.reduceAdd, e1, e2, e3, e4, e5, Bool.and_self]
    exact ⟨trivial, hl, trivial, trivial, rfl⟩
  · intro h hh
    obtain ⟨h0, hl⟩ := hh
    subst h0
    have e1 : decide (1 ≤ l.length) = true := decide_eq_true (by omega)
    have e2 : decide (4 ≤ (l.drop 1).length) = true := decide_eq_true (by rw [List.length_drop]; omega)
    have e3 : decide (4 ≤ ((l.drop 1).drop 4).length) = true := decide_eq_true (by simp only [List.length_drop]; omega)
    have e4 : decide (8 ≤ (((l.drop 1).drop 4).drop 4).length) = true := decide_eq_true (by simp only [List.length_drop]; omega)
    have e5 : decide (8 ≤ ((((l.drop 1).drop 4).drop 4).drop 8).length) = true := decide_eq_true (by simp only [List.length_drop]; omega)
    have e6 : decide (1 ≤ (((((l.drop 1).drop 4).drop 4).drop 8).drop 8).length) = true := decide_eq_true (by simp only [List.length_drop]; omega)
    rw [e1, e2, e3, e4, e5, e6] at h
    cases h
end Go.Proofs.Ytbnbfnlfgmlcgaa
