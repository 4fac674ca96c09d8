/-
  Layer 25: a register of transactions as values: plain.
-/
import Derived.Test.YtbnbfnlfgmlcgaaPost2
import Derived.Test.YtbnbfnlfgmlcgaaKitZ
namespace Go.Proofs.Ytbnbfnlfgmlcgaa
set_option linter.unusedSimpArgs false
set_option linter.unusedVariables false
open Go.RowKit
structure TxM where
  num : Int
  kind : Int
  shift : Int
  ref : Int
  amt : Int
  left : Int
  void : Bool
  L : List LnM
deriving DecidableEq
def tx0 : TxM := ⟨0, 0, 0, 0, 0, 0, false, []⟩
/-- a transaction, and where its lines lie -/
structure TxA where
  t : TxM
  la : Option Addr
  lc : Nat
def ta0 : TxA := ⟨tx0, none, 0⟩
def txC (x : TxA) : List Value := [.int .i64 x.t.num, .int .u8 x.t.kind, .int .i64 x.t.shift, .int .i64 x.t.ref, .int .i64 x.t.amt, .int .i64 x.t.left, .bool x.t.void, .slice x.la x.t.L.length x.lc]
theorem txC_length (x : TxA) : (txC x).length = 8 := rfl
theorem txC_one (x : TxA) : ∀ u ∈ txC x, u.oneCell' = true := by
  intro u hu
  simp [txC] at hu
  rcases hu with rfl | rfl | rfl | rfl | rfl | rfl | rfl | rfl <;> rfl
def txV (x : TxA) : Value := .agg (txC x).toArray
structure TxOk (t : TxM) : Prop where
  num : inR t.num
  kind : 0 ≤ t.kind ∧ t.kind ≤ 255
  shift : inR t.shift
  ref : inR t.ref
  amt : inR t.amt
  left : inR t.left
  few : t.L.length ≤ 1000
  L : ∀ x ∈ t.L, LnOk x
def numT (n : Int) : Bool := decide (1 ≤ n ∧ n ≤ 4294967295)
def backT (k : Int) : Bool := decide (k = 2 ∨ k = 3)
def refT (t : TxM) : Bool := if backT t.kind = true then numT t.ref else decide (t.ref = 0)
def amtT (t : TxM) : Bool := if t.kind = 6 then decide (t.amt = 0) else decide (1 ≤ t.amt ∧ t.amt ≤ 4611686018427387904)
def accT (t : TxM) : Bool := t.L.all fun x => decide (0 ≤ x.c ∧ x.c ≤ 65535)
def rightT (t : TxM) : Bool := decide (1 ≤ t.kind ∧ t.kind ≤ 6) && (numT t.shift && (decide (t.L.length ≤ 8) && (refT t && (amtT t && accT t))))
/-- where a number is kept -/
def findT (len : Nat) (next n : Int) : Option Nat := if n ≥ next ∨ n < next - (len : Int) then none else some ((len : Int) - (next - n)).toNat
theorem findT_lt {len : Nat} {next n : Int} {i : Nat} (h : findT len next n = some i) : i < len ∧ (i : Int) = len - (next - n) := by
  unfold findT at h
  split at h
  · cases h
  · next hn =>
    have := Option.some.inj h
    omega
/-- may it turn this back? -/
def takesE (t : TxM) (o : Option TxM) : Int :=
  match o with
  | none => 15
  | some s => if ¬ s.kind = 1 then 15 else if s.void = true then 21 else if t.kind = 2 ∧ ¬ s.left = s.amt then 22 else if t.kind = 3 ∧ t.amt > s.left then 22 else if t.kind = 2 ∧ ¬ t.amt = s.amt then 2 else 0
def ofT (M : List TxM) (next : Int) (t : TxM) : Option TxM := (findT M.length next t.ref).map fun i => M.getD i tx0
def addE (M : List TxM) (next : Int) (t : TxM) : Int :=
  if rightT t = false then 2 else if backT t.kind = true ∧ ¬ takesE t (ofT M next t) = 0 then takesE t (ofT M next t) else if next > 4294967295 then 7 else 0
/-- what becomes of the one that is turned back -/
def turnT (s t : TxM) : TxM := { s with left := s.left - t.amt, void := decide (t.kind = 2) }
def turnsT (M : List TxM) (next : Int) (t : TxM) : List TxM := if backT t.kind = true then M.set ((findT M.length next t.ref).getD 0) (turnT (M.getD ((findT M.length next t.ref).getD 0) tx0) t) else M
def newT (next : Int) (t : TxM) : TxM := { t with num := next, left := if t.kind = 1 then t.amt else 0, void := false }
def addM (M : List TxM) (keep next : Int) (t : TxM) : List TxM := if addE M next t = 0 then (turnsT M next t ++ [newT next t]).drop (M.length + 1 - keep.toNat) else M
def addN (M : List TxM) (next : Int) (t : TxM) : Int := if addE M next t = 0 then next + 1 else next
/-- what is kept is right, and what is left of it may be -/
def leftT (t : TxM) : Bool := if t.kind = 1 ∧ t.void = false then decide (0 ≤ t.left ∧ t.left ≤ t.amt) else decide (t.left = 0)
def KeptT (t : TxM) : Prop := TxOk t ∧ rightT t = true ∧ leftT t = true ∧ (t.void = true → t.kind = 1)
theorem right_parts {t : TxM} (h : rightT t = true) : (1 ≤ t.kind ∧ t.kind ≤ 6) ∧ (1 ≤ t.shift ∧ t.shift ≤ 4294967295) ∧ t.L.length ≤ 8 ∧ refT t = true ∧ amtT t = true ∧ accT t = true := by
  unfold rightT numT at h
  simp only [Bool.and_eq_true, decide_eq_true_eq] at h
  exact ⟨h.1, h.2.1, h.2.2.1, h.2.2.2.1, h.2.2.2.2.1, h.2.2.2.2.2⟩
theorem amt_in {t : TxM} (h : rightT t = true) : 0 ≤ t.amt ∧ t.amt ≤ 4611686018427387904 := by
  have := (right_parts h).2.2.2.2.1
  unfold amtT at this
  split at this
  · have := of_decide_eq_true this; omega
  · have := of_decide_eq_true this; omega
theorem left_in {t : TxM} (h : KeptT t) : 0 ≤ t.left ∧ t.left ≤ 4611686018427387904 := by
  obtain ⟨-, h1, h2, -⟩ := h
  have ha := amt_in h1
  unfold leftT at h2
  split at h2
  · have := of_decide_eq_true h2; omega
  · have := of_decide_eq_true h2; omega
/-- what may be turned back: what becomes of it -/
theorem takes_ok {t s : TxM} (h : takesE t (some s) = 0) : s.kind = 1 ∧ s.void = false ∧ (t.kind = 2 → s.left = s.amt ∧ t.amt = s.amt) ∧ (t.kind = 3 → t.amt ≤ s.left) := by
  unfold takesE at h
  simp only at h
  split at h
  · cases h
  · next h1 =>
    split at h
    · cases h
    · next h2 =>
      split at h
      · cases h
      · next h3 =>
        split at h
        · cases h
        · next h4 =>
          split at h
          · cases h
          · next h5 =>
            refine ⟨by omega, by simpa using h2, fun hk => ⟨?_, ?_⟩, fun hk => ?_⟩
            · exact Classical.byContradiction fun hc => h3 ⟨hk, hc⟩
            · exact Classical.byContradiction fun hc => h5 ⟨hk, hc⟩
            · exact Classical.byContradiction fun hc => h4 ⟨hk, by omega⟩
theorem turn_kept {t s : TxM} (hs : KeptT s) (ht : rightT t = true) (hb : backT t.kind = true) (h : takesE t (some s) = 0) : KeptT (turnT s t) := by
  obtain ⟨h1, h2, h3, h4⟩ := takes_ok h
  obtain ⟨g1, g2, g3, g4⟩ := hs
  have hl := left_in ⟨g1, g2, g3, g4⟩
  have ha := amt_in ht
  have hk : t.kind = 2 ∨ t.kind = 3 := of_decide_eq_true hb
  have hsl : s.left ≤ s.amt := by
    unfold leftT at g3
    rw [if_pos ⟨h1, h2⟩] at g3
    exact (of_decide_eq_true g3).2
  have hlr : inR (s.left - t.amt) := by unfold inR; omega
  refine ⟨⟨g1.num, g1.kind, g1.shift, g1.ref, g1.amt, hlr, g1.few, g1.L⟩, g2, ?_, fun _ => h1⟩
  unfold leftT turnT
  dsimp only
  rcases hk with hk | hk
  · have := h3 hk
    rw [if_neg (by rw [decide_eq_true hk]; simp)]
    exact decide_eq_true (by omega)
  · have := h4 hk
    rw [if_pos ⟨h1, decide_eq_false (by omega)⟩]
    exact decide_eq_true (by omega)
theorem new_kept {t : TxM} {next : Int} (h0 : TxOk t) (h : rightT t = true) (hn : inR next) : KeptT (newT next t) := by
  have ha := amt_in h
  refine ⟨⟨hn, h0.kind, h0.shift, h0.ref, h0.amt, ?_, h0.few, h0.L⟩, h, ?_, fun hv => by cases hv⟩
  · show inR (if t.kind = 1 then t.amt else 0)
    split
    · exact h0.amt
    · unfold inR; omega
  · unfold leftT newT
    dsimp only
    by_cases hk : t.kind = 1
    · rw [if_pos ⟨hk, rfl⟩, if_pos hk]
      exact decide_eq_true (by omega)
    · rw [if_neg (fun hh => hk hh.1), if_neg hk]; rfl
theorem addE_right {M : List TxM} {next : Int} {t : TxM} (h : addE M next t = 0) : rightT t = true ∧ (backT t.kind = true → ∃ i, findT M.length next t.ref = some i ∧ i < M.length ∧ takesE t (some (M.getD i tx0)) = 0) ∧ next ≤ 4294967295 := by
  unfold addE at h
  split at h
  · cases h
  · next h1 =>
    split at h
    · next h2 => exact absurd h h2.2
    · next h2 =>
      split at h
      · cases h
      · next h3 =>
        refine ⟨by simpa using h1, fun hb => ?_, by omega⟩
        have h4 : takesE t (ofT M next t) = 0 := Classical.byContradiction fun hc => h2 ⟨hb, hc⟩
        unfold ofT at h4
        cases hf : findT M.length next t.ref with
        | none => rw [hf] at h4; cases h4
        | some i => rw [hf] at h4; exact ⟨i, rfl, (findT_lt hf).1, h4⟩
theorem turns_len (M : List TxM) (next : Int) (t : TxM) : (turnsT M next t).length = M.length := by unfold turnsT; split <;> simp
theorem turns_kept {M : List TxM} {next : Int} {t : TxM} (hM : ∀ s ∈ M, KeptT s) (h : addE M next t = 0) : ∀ s ∈ turnsT M next t, KeptT s := by
  obtain ⟨h1, h2, -⟩ := addE_right h
  intro s hs
  unfold turnsT at hs
  split at hs
  · next hb =>
    obtain ⟨i, hf, hi, ht⟩ := h2 hb
    rw [hf] at hs
    rcases List.mem_or_eq_of_mem_set hs with hs | rfl
    · exact hM s hs
    · exact turn_kept (hM _ (by simp [List.getD, hi])) h1 hb ht
  · exact hM s hs
theorem addM_kept {M : List TxM} {keep next : Int} {t : TxM} (hM : ∀ s ∈ M, KeptT s) (h0 : TxOk t) (hn : inR next) : ∀ s ∈ addM M keep next t, KeptT s := by
  intro s hs
  unfold addM at hs
  split at hs
  · next h =>
    rcases List.mem_append.1 (List.mem_of_mem_drop hs) with hs | hs
    · exact turns_kept hM h s hs
    · rw [List.mem_singleton.1 hs]
      exact new_kept h0 (addE_right h).1 hn
  · exact hM s hs
/-- the kept ones are the last ones: the numbers -/
def NumsT (M : List TxM) (next : Int) : Prop := ∀ i, i < M.length → (M.getD i tx0).num = next - (M.length : Int) + (i : Int)
theorem turns_num (M : List TxM) (next : Int) (t : TxM) (i : Nat) : ((turnsT M next t).getD i tx0).num = (M.getD i tx0).num := by
  unfold turnsT
  split
  · generalize (findT M.length next t.ref).getD 0 = k
    simp only [List.getD, List.getElem?_set]
    split
    · next e =>
      subst e
      split
      · rfl
      · next hl => rw [List.getElem?_eq_none (by omega)]
    · rfl
  · rfl
theorem addM_nums {M : List TxM} {keep next : Int} {t : TxM} (hN : NumsT M next) (hk : 1 ≤ keep) : NumsT (addM M keep next t) (addN M next t) ∧ (addE M next t = 0 → ((addM M keep next t).length : Int) = min ((M.length : Int) + 1) (keep)) ∧ (addE M next t ≠ 0 → addM M keep next t = M) := by
  unfold addM addN
  by_cases h : addE M next t = 0
  · rw [if_pos h, if_pos h]
    refine ⟨fun i hi => ?_, fun _ => ?_, fun hc => absurd h hc⟩
    · rw [List.length_drop, List.length_append, turns_len, List.length_singleton] at hi ⊢
      have e1 : ((turnsT M next t ++ [newT next t]).drop (M.length + 1 - keep.toNat)).getD i tx0 = (turnsT M next t ++ [newT next t]).getD (M.length + 1 - keep.toNat + i) tx0 := by
        simp only [List.getD, List.getElem?_drop]
      rw [e1]
      by_cases hl : M.length + 1 - keep.toNat + i < M.length
      · have e2 : (turnsT M next t ++ [newT next t]).getD (M.length + 1 - keep.toNat + i) tx0 = (turnsT M next t).getD (M.length + 1 - keep.toNat + i) tx0 := by
          simp only [List.getD]
          rw [List.getElem?_append_left (by rw [turns_len]; exact hl)]
        rw [e2, turns_num, hN _ hl]
        omega
      · have e2 : (turnsT M next t ++ [newT next t]).getD (M.length + 1 - keep.toNat + i) tx0 = newT next t := by
          simp only [List.getD]
          rw [List.getElem?_append_right (by rw [turns_len]; omega), turns_len, show M.length + 1 - keep.toNat + i - M.length = 0 by omega]
          rfl
        rw [e2]
        show next = _
        omega
    · rw [List.length_drop, List.length_append, turns_len, List.length_singleton]
      omega
  · rw [if_neg h, if_neg h]
    exact ⟨hN, fun hc => absurd hc h, fun _ => rfl⟩
end Go.Proofs.Ytbnbfnlfgmlcgaa
