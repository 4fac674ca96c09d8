/-
  Layer 25: what is left of each sale: plain.
-/
import Derived.Test.YtbnbfnlfgmlcgaaMSale
--import Derived.Test.Zdbg
namespace Go.Proofs.Ytbnbfnlfgmlcgaa
set_option linter.unusedSimpArgs false
set_option linter.unusedVariables false
open Go.RowKit Go.WideShapes Go.ChangeShapes Go.ChangeAt Go.Deep

/-- the sale of a number, while all are kept -/
def saleOf (M : List TxM) (k : Int) : Option TxM := if 1 ≤ k ∧ k ≤ (M.length : Int) ∧ (M.getD (k - 1).toNat tx0).kind = 1 then some (M.getD (k - 1).toNat tx0) else none
def amM (M : List TxM) (k : Int) : Option Value := (saleOf M k).map fun s => .int .i64 s.amt
def bkM (M : List TxM) (k : Int) : Int := match saleOf M k with | none => 0 | some s => if s.void = true then 0 else s.amt - s.left
def vdM (M : List TxM) (k : Int) : Bool := match saleOf M k with | none => false | some s => s.void
theorem addM_all {M : List TxM} {keep next : Int} {t : TxM} (h : addE M next t = 0) (hl : (M.length : Int) + 1 ≤ keep) : addM M keep next t = turnsT M next t ++ [newT next t] := by
  unfold addM
  rw [if_pos h, show M.length + 1 - keep.toNat = 0 by omega, List.drop_zero]
theorem saleOf_snoc (M : List TxM) (x : TxM) (k : Int) : saleOf (M ++ [x]) k = if k = (M.length : Int) + 1 then (if x.kind = 1 then some x else none) else saleOf M k := by
  unfold saleOf
  by_cases hk : k = (M.length : Int) + 1
  · have e : (M ++ [x]).getD (k - 1).toNat tx0 = x := by
      have : (k - 1).toNat = M.length := by omega
      rw [this]; simp [List.getD]
    rw [if_pos hk, e, List.length_append, List.length_singleton]
    by_cases h1 : x.kind = 1
    · rw [if_pos h1, if_pos ⟨by omega, by omega, h1⟩]
    · rw [if_neg h1, if_neg (fun h => h1 h.2.2)]
  · rw [if_neg hk, List.length_append, List.length_singleton]
    by_cases hr : 1 ≤ k ∧ k ≤ (M.length : Int)
    · have e : (M ++ [x]).getD (k - 1).toNat tx0 = M.getD (k - 1).toNat tx0 := by
        simp only [List.getD]
        rw [List.getElem?_append_left (by omega)]
      rw [e]
      by_cases h1 : (M.getD (k - 1).toNat tx0).kind = 1
      · rw [if_pos ⟨by omega, by omega, h1⟩, if_pos ⟨by omega, by omega, h1⟩]
      · rw [if_neg (fun h => h1 h.2.2), if_neg (fun h => h1 h.2.2)]
    · rw [if_neg (fun h => hr ⟨h.1, by omega⟩), if_neg (fun h => hr ⟨h.1, h.2.1⟩)]
theorem saleOf_set {M : List TxM} {i : Nat} {y : TxM} (hi : i < M.length) (k : Int) : saleOf (M.set i y) k = if k = (i : Int) + 1 then (if y.kind = 1 then some y else none) else saleOf M k := by
  unfold saleOf
  rw [List.length_set]
  by_cases hk : k = (i : Int) + 1
  · have e : (M.set i y).getD (k - 1).toNat tx0 = y := by
      have : (k - 1).toNat = i := by omega
      rw [this]; simp [List.getD, hi]
    rw [if_pos hk, e]
    by_cases h1 : y.kind = 1
    · rw [if_pos h1, if_pos ⟨by omega, by omega, h1⟩]
    · rw [if_neg h1, if_neg (fun h => h1 h.2.2)]
  · rw [if_neg hk]
    by_cases hr : 1 ≤ k ∧ k ≤ (M.length : Int)
    · have e : (M.set i y).getD (k - 1).toNat tx0 = M.getD (k - 1).toNat tx0 := by
        simp only [List.getD, List.getElem?_set]
        rw [if_neg (by omega)]
      rw [e]
    · rw [if_neg (fun h => hr ⟨h.1, h.2.1⟩), if_neg (fun h => hr ⟨h.1, h.2.1⟩)]
theorem saleOf_at {M : List TxM} {k : Int} {s : TxM} (h : saleOf M k = some s) : (k - 1).toNat < M.length ∧ M.getD (k - 1).toNat tx0 = s ∧ s.kind = 1 ∧ 1 ≤ k ∧ k ≤ (M.length : Int) ∧ findT M.length ((M.length : Int) + 1) k = some (k - 1).toNat := by
  unfold saleOf at h
  split at h
  · next hc =>
    have hs := Option.some.inj h
    refine ⟨by omega, hs, by rw [← hs]; exact hc.2.2, hc.1, hc.2.1, ?_⟩
    unfold findT
    rw [if_neg (by omega)]
    congr 1
    omega
  · cases h
theorem sale_kept {M : List TxM} (hM : ∀ s ∈ M, KeptT s) {k : Int} {s : TxM} (h : saleOf M k = some s) : KeptT s := by
  obtain ⟨h1, h2, -⟩ := saleOf_at h
  have hg : ∀ i, i < M.length → M.getD i tx0 ∈ M := fun i hi => by simp [List.getD, hi]
  rw [← h2]
  exact hM _ (hg _ h1)
/-- what is left of a sale -/
theorem sale_left {M : List TxM} (hM : ∀ s ∈ M, KeptT s) {k : Int} {s : TxM} (h : saleOf M k = some s) : vdM M k = s.void ∧ (s.void = false → s.left = s.amt - bkM M k) ∧ (s.void = true → s.left = 0) ∧ (0 ≤ bkM M k ∧ bkM M k ≤ s.amt) ∧ (0 ≤ s.amt ∧ s.amt ≤ 4611686018427387904) := by
  obtain ⟨hk1, hk2, hk3, hk4⟩ := sale_kept hM h
  have ha := amt_in hk2
  have h1 := (saleOf_at h).2.2.1
  unfold vdM bkM
  rw [h]
  dsimp only
  unfold leftT at hk3
  refine ⟨rfl, fun hv => ?_, fun hv => ?_, ?_, ha⟩
  · rw [if_neg (by rw [hv]; decide)]; omega
  · rw [if_neg (fun hh => by rw [hv] at hh; cases hh.2)] at hk3
    exact of_decide_eq_true hk3
  · by_cases hv : s.void = true
    · rw [if_pos hv]; omega
    · rw [if_neg hv]
      rw [if_pos ⟨h1, by simpa using hv⟩] at hk3
      have := of_decide_eq_true hk3
      omega
theorem bkM_in {M : List TxM} (hM : ∀ s ∈ M, KeptT s) (k : Int) : 0 ≤ bkM M k ∧ bkM M k ≤ 4611686018427387904 := by
  cases h : saleOf M k with
  | none => unfold bkM; rw [h]; dsimp only; omega
  | some s => have := sale_left hM h; omega
/-- one more that turns nothing back -/
theorem left_other {M M' : List TxM} {t : TxM} (hE : addE M ((M.length : Int) + 1) t = 0) (hM' : M' = turnsT M ((M.length : Int) + 1) t ++ [newT ((M.length : Int) + 1) t]) (h1 : t.kind ≠ 1) (h2 : t.kind ≠ 2) (h3 : t.kind ≠ 3) (k : Int) : amM M' k = amM M k ∧ bkM M' k = bkM M k ∧ vdM M' k = vdM M k := by
  have hb : backT t.kind = false := decide_eq_false (by omega)
  have hs : saleOf M' k = saleOf M k := by
    rw [hM']
    unfold turnsT
    rw [hb, if_neg (by decide), saleOf_snoc]
    by_cases hk : k = (M.length : Int) + 1
    · rw [if_pos hk, if_neg (show ¬ (newT ((M.length : Int) + 1) t).kind = 1 from h1)]
      unfold saleOf
      rw [if_neg (fun h => by omega)]
    · rw [if_neg hk]
  unfold amM bkM vdM
  rw [hs]
  exact ⟨rfl, rfl, rfl⟩
theorem left_sale {M M' : List TxM} {t : TxM} (hE : addE M ((M.length : Int) + 1) t = 0) (hM' : M' = turnsT M ((M.length : Int) + 1) t ++ [newT ((M.length : Int) + 1) t]) (h1 : t.kind = 1) (k : Int) : (amM M' k = if k = (M.length : Int) + 1 then some (.int .i64 t.amt) else amM M k) ∧ bkM M' k = bkM M k ∧ vdM M' k = vdM M k := by
  have hb : backT t.kind = false := decide_eq_false (by omega)
  have hs : saleOf M' k = if k = (M.length : Int) + 1 then some (newT ((M.length : Int) + 1) t) else saleOf M k := by
    rw [hM']
    unfold turnsT
    rw [hb, if_neg (by decide), saleOf_snoc, if_pos (show (newT ((M.length : Int) + 1) t).kind = 1 from h1)]
  unfold amM bkM vdM
  rw [hs]
  by_cases hk : k = (M.length : Int) + 1
  · have hn : saleOf M k = none := by
      unfold saleOf
      rw [if_neg (fun h => by omega)]
    rw [if_pos hk, if_pos hk, hn]
    refine ⟨rfl, ?_, rfl⟩
    show (if (newT ((M.length : Int) + 1) t).void = true then (0 : Int) else (newT ((M.length : Int) + 1) t).amt - (newT ((M.length : Int) + 1) t).left) = 0
    rw [if_neg (by show ¬ false = true; decide)]
    show t.amt - (if t.kind = 1 then t.amt else 0) = 0
    rw [if_pos h1]; omega
  · rw [if_neg hk, if_neg hk]
    exact ⟨rfl, rfl, rfl⟩
/-- one that turns a sale back -/
theorem left_back {M M' : List TxM} {t : TxM} (hE : addE M ((M.length : Int) + 1) t = 0) (hM' : M' = turnsT M ((M.length : Int) + 1) t ++ [newT ((M.length : Int) + 1) t]) (h1 : t.kind = 2 ∨ t.kind = 3) :
    ∃ s, saleOf M t.ref = some s ∧ s.void = false ∧ (t.kind = 2 → s.left = s.amt ∧ t.amt = s.amt) ∧ (t.kind = 3 → t.amt ≤ s.left) ∧ ∀ k, saleOf M' k = if k = t.ref then some (turnT s t) else saleOf M k := by
  have hb : backT t.kind = true := decide_eq_true h1
  obtain ⟨-, h2, -⟩ := addE_right hE
  obtain ⟨i, hf, hi, ht⟩ := h2 hb
  obtain ⟨g1, g2, g3, g4⟩ := takes_ok ht
  have hri : t.ref = (i : Int) + 1 := by have := (findT_lt hf).2; omega
  have hsi : saleOf M t.ref = some (M.getD i tx0) := by
    unfold saleOf
    have e : (t.ref - 1).toNat = i := by omega
    rw [e, if_pos ⟨by omega, by omega, g1⟩]
  refine ⟨M.getD i tx0, hsi, g2, g3, g4, fun k => ?_⟩
  rw [hM']
  unfold turnsT
  rw [hb, if_pos rfl, hf]
  show saleOf (M.set i (turnT (M.getD i tx0) t) ++ [newT ((M.length : Int) + 1) t]) k = _
  rw [saleOf_snoc, List.length_set, saleOf_set hi]
  have hnk : ¬ (newT ((M.length : Int) + 1) t).kind = 1 := by show ¬ t.kind = 1; omega
  rw [if_neg hnk, if_pos (show (turnT (M.getD i tx0) t).kind = 1 from g1), ← hri]
  by_cases hk : k = (M.length : Int) + 1
  · rw [if_pos hk, if_neg (by omega)]
    unfold saleOf
    rw [if_neg (fun h => by omega)]
  · rw [if_neg hk]
theorem left_void {M M' : List TxM} {t : TxM} (hE : addE M ((M.length : Int) + 1) t = 0) (hM' : M' = turnsT M ((M.length : Int) + 1) t ++ [newT ((M.length : Int) + 1) t]) (h1 : t.kind = 2) : vdM M t.ref = false ∧ bkM M t.ref = 0 ∧ ∀ k, amM M' k = amM M k ∧ bkM M' k = bkM M k ∧ vdM M' k = if k = t.ref then true else vdM M k := by
  obtain ⟨s, hs, hv, h2, -, hk⟩ := left_back hE hM' (.inl h1)
  obtain ⟨e1, e2⟩ := h2 h1
  refine ⟨by unfold vdM; rw [hs]; exact hv, by unfold bkM; rw [hs]; dsimp only; rw [hv, if_neg (by decide)]; omega, fun k => ?_⟩
  unfold amM bkM vdM
  rw [hk k]
  by_cases hr : k = t.ref
  · subst hr
    rw [if_pos rfl, if_pos rfl, hs]
    have hvt : (turnT s t).void = true := by show decide (t.kind = 2) = true; exact decide_eq_true h1
    refine ⟨rfl, ?_, hvt⟩
    dsimp only
    rw [hvt, if_pos rfl, hv, if_neg (by decide)]
    omega
  · rw [if_neg hr, if_neg hr]
    exact ⟨rfl, rfl, rfl⟩
theorem left_refund {M M' : List TxM} {t : TxM} (hM : ∀ s ∈ M, KeptT s) (hE : addE M ((M.length : Int) + 1) t = 0) (hM' : M' = turnsT M ((M.length : Int) + 1) t ++ [newT ((M.length : Int) + 1) t]) (h1 : t.kind = 3) : vdM M t.ref = false ∧ (∃ A : Int, amM M t.ref = some (.int .i64 A) ∧ t.amt ≤ A - bkM M t.ref ∧ 0 ≤ A ∧ A ≤ 4611686018427387904) ∧ ∀ k, amM M' k = amM M k ∧ (bkM M' k = if k = t.ref then bkM M t.ref + t.amt else bkM M k) ∧ vdM M' k = vdM M k := by
  obtain ⟨s, hs, hv, -, h3, hk⟩ := left_back hE hM' (.inr h1)
  have e1 := h3 h1
  obtain ⟨g1, g2, g3, g4, g5⟩ := sale_left hM hs
  have g6 := g2 hv
  refine ⟨by rw [g1]; exact hv, ⟨s.amt, by unfold amM; rw [hs]; rfl, by omega, g5.1, g5.2⟩, fun k => ?_⟩
  by_cases hr : k = t.ref
  · subst hr
    have hvt : (turnT s t).void = false := by show decide (t.kind = 2) = false; exact decide_eq_false (by omega)
    have hb : bkM M' t.ref = bkM M t.ref + t.amt := by
      have e : bkM M' t.ref = (turnT s t).amt - (turnT s t).left := by
        unfold bkM
        rw [hk, if_pos rfl]
        dsimp only
        rw [hvt, if_neg (by decide)]
      rw [e]
      show s.amt - (s.left - t.amt) = _
      omega
    refine ⟨?_, by rw [if_pos rfl]; exact hb, ?_⟩
    · unfold amM
      rw [hk, if_pos rfl, hs]; rfl
    · unfold vdM
      rw [hk, if_pos rfl, hs]
      show (turnT s t).void = s.void
      rw [hvt, hv]
  · unfold amM bkM vdM
    rw [hk, if_neg hr, if_neg hr]
    exact ⟨rfl, rfl, rfl⟩
end Go.Proofs.Ytbnbfnlfgmlcgaa
