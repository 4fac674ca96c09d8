/-
  Layer 26: shifts of bytes: plain.
-/
import Derived.Test.YtfdgfeohmkdnoaaMSh
import Derived.Test.YtfdgfeohmkdnoaaRQ
namespace Go.Proofs.Ytfdgfeohmkdnoaa
set_option linter.unusedSimpArgs false
set_option linter.unusedVariables false
open Go.RowKit
/-- totals of 44 bytes -/
def totR (l : List UInt8) : TotM := ⟨(getN (l.take 4) : Int), wrap64 (getN ((l.drop 4).take 8) : Int), wrap64 (getN ((l.drop 12).take 8) : Int), wrap64 (getN ((l.drop 20).take 8) : Int), wrap64 (getN ((l.drop 28).take 8) : Int), wrap64 (getN ((l.drop 36).take 8) : Int)⟩
def totB (t : TotM) : Bool := (((((true && decide (0 ≤ t.s)) && decide (0 ≤ t.v)) && decide (0 ≤ t.r)) && decide (0 ≤ t.i)) && decide (0 ≤ t.o))
theorem totB_iff (t : TotM) : totB t = true ↔ 0 ≤ t.s ∧ 0 ≤ t.v ∧ 0 ≤ t.r ∧ 0 ≤ t.i ∧ 0 ≤ t.o := by
  unfold totB
  simp [and_assoc]
theorem wrap64_in (x : Int) : inR (wrap64 x) := by unfold inR wrap64; omega
theorem take4_lt (l : List UInt8) : getN (l.take 4) ≤ 4294967295 := by
  have h1 := getN_lt (l.take 4)
  have h2 : (l.take 4).length ≤ 4 := by rw [List.length_take]; omega
  have h3 : 256 ^ (l.take 4).length ≤ 256 ^ 4 := Nat.pow_le_pow_right (by decide) h2
  omega
theorem totR_ok {l : List UInt8} (h : totB (totR l) = true) : TotOk (totR l) := by
  obtain ⟨h1, h2, h3, h4, h5⟩ := (totB_iff _).1 h
  have h0 := take4_lt l
  exact ⟨⟨by unfold totR; dsimp only; omega, by unfold totR; dsimp only; omega⟩, ⟨h1, (wrap64_in _).2⟩, ⟨h2, (wrap64_in _).2⟩, ⟨h3, (wrap64_in _).2⟩, ⟨h4, (wrap64_in _).2⟩, ⟨h5, (wrap64_in _).2⟩⟩
/-- so many totals of bytes, behind others -/
def rdT : Nat → List UInt8 → List TotM → Option (List TotM × List UInt8)
  | 0, l, M => some (M, l)
  | k + 1, l, M => if 44 ≤ l.length ∧ totB (totR l) = true then rdT k (l.drop 44) (M ++ [totR l]) else none
theorem rdT_yes {k : Nat} {l : List UInt8} {M : List TotM} (h : 44 ≤ l.length ∧ totB (totR l) = true) : rdT (k + 1) l M = rdT k (l.drop 44) (M ++ [totR l]) := if_pos h
theorem rdT_no {k : Nat} {l : List UInt8} {M : List TotM} (h : ¬ (44 ≤ l.length ∧ totB (totR l) = true)) : rdT (k + 1) l M = none := if_neg h
theorem rdT_some : ∀ (k : Nat) (l : List UInt8) (M M' : List TotM) (r : List UInt8), rdT k l M = some (M', r) → (∀ t ∈ M, TotOk t) → M'.length = M.length + k ∧ (∀ t ∈ M', TotOk t) ∧ l.length = 44 * k + r.length
  | 0, l, M, M', r, h, hM => by
    unfold rdT at h
    cases h
    exact ⟨rfl, hM, by omega⟩
  | k + 1, l, M, M', r, h, hM => by
    by_cases hg : 44 ≤ l.length ∧ totB (totR l) = true
    · rw [rdT_yes hg] at h
      obtain ⟨h1, h2, h3⟩ := rdT_some k _ _ _ _ h (fun t ht => by
        rcases List.mem_append.1 ht with h | h
        · exact hM t h
        · rw [List.mem_singleton.1 h]; exact totR_ok hg.2)
      rw [List.length_append, List.length_singleton] at h1
      rw [List.length_drop] at h3
      exact ⟨by omega, h2, by omega⟩
    · rw [rdT_no hg] at h; cases h
theorem rdT_short : ∀ (k : Nat) (l : List UInt8) (M : List TotM), l.length < 44 * k → rdT k l M = none
  | 0, l, M, h => by omega
  | k + 1, l, M, h => by
    by_cases hg : 44 ≤ l.length ∧ totB (totR l) = true
    · rw [rdT_yes hg]; exact rdT_short k _ _ (by rw [List.length_drop]; omega)
    · exact rdT_no hg
/-- the shifts of what was read -/
def mkSh (kp x : Int) (o n : Nat) (L : List TotM) : ShM := if o = 1 then ⟨kp, x, true, L.getD n tot0, L.take n⟩ else ⟨kp, x, false, tot0, L⟩
def hdN (t : List UInt8) : Nat := getN (t.take 5)
def hdO (t : List UInt8) : Nat := (t.getD 5 0).toNat
def hdL (t : List UInt8) : Nat := (t.getD 6 0).toNat
def hdOk (kp : Int) (x o n : Nat) : Prop := 1 ≤ x ∧ x ≤ 4294967296 ∧ o ≤ 1 ∧ (n : Int) ≤ kp ∧ (n : Int) + o ≤ (x : Int) - 1
instance (kp : Int) (x o n : Nat) : Decidable (hdOk kp x o n) := inferInstanceAs (Decidable (_ ∧ _ ∧ _ ∧ _ ∧ _))
/-- shifts of bytes -/
def shR (kp : Int) (t : List UInt8) : Option (ShM × List UInt8) := if 7 ≤ t.length ∧ hdOk kp (hdN t) (hdO t) (hdL t) then (rdT (hdL t + hdO t) (t.drop 7) []).map fun z => (mkSh kp (hdN t) (hdO t) (hdL t) z.1, z.2) else none
theorem shR_ok {kp : Int} (hkp : 1 ≤ kp ∧ kp ≤ 64) {t : List UInt8} {M : ShM} {r : List UInt8} (h : shR kp t = some (M, r)) : ShOk M := by
  unfold shR at h
  split at h
  · next hc =>
    obtain ⟨h7, g1, g2, g3, g4, g5⟩ := hc
    cases hr : rdT (hdL t + hdO t) (t.drop 7) [] with
    | none => rw [hr] at h; cases h
    | some z =>
      obtain ⟨L, r'⟩ := z
      rw [hr] at h
      simp only [Option.map_some, Option.some.injEq, Prod.mk.injEq] at h
      obtain ⟨h1, h2⟩ := h
      obtain ⟨e1, e2, -⟩ := rdT_some _ _ _ _ _ hr (fun t ht => by cases ht)
      rw [List.length_nil, Nat.zero_add] at e1
      subst h1
      unfold mkSh
      split
      · next ho =>
        have hl : (L.take (hdL t)).length = hdL t := by rw [List.length_take]; omega
        refine ⟨hkp, by dsimp only; omega, by dsimp only; rw [hl]; omega, by dsimp only; rw [hl, if_pos rfl]; omega, ?_, fun t' ht => e2 _ (List.mem_of_mem_take ht)⟩
        have hi : hdL t < L.length := by omega
        dsimp only
        rw [show L.getD (hdL t) tot0 = L[hdL t] by simp [List.getD, hi]]
        exact e2 _ (List.getElem_mem hi)
      · next ho =>
        have ho0 : hdO t = 0 := by omega
        refine ⟨hkp, by dsimp only; omega, by dsimp only; omega, by dsimp only; rw [if_neg (by decide)]; omega, tot0_ok, e2⟩
  · cases h
/-- what readTotals reads -/
def rtK (ok : Bool) (l : List UInt8) (k : Nat) : Bool := ok && decide (4 + 8 * k ≤ l.length)
def rtL (l : List UInt8) (k : Nat) : List UInt8 := l.drop (4 + 8 * k)
def rtS (ok : Bool) (l : List UInt8) (k : Nat) : Int := vI (rtK ok l k) (rtL l k)
theorem rtK_next (ok : Bool) (l : List UInt8) (k : Nat) : (rtK ok l k && decide (8 ≤ (rtL l k).length)) = rtK ok l (k + 1) := by
  unfold rtK rtL
  rw [List.length_drop, Bool.and_assoc]
  congr 1
  rw [Bool.eq_iff_iff]
  simp
  omega
theorem rtL_next (l : List UInt8) (k : Nat) : (rtL l k).drop 8 = rtL l (k + 1) := by
  unfold rtL
  rw [List.drop_drop]
  congr 1
def rtV (ok : Bool) (l : List UInt8) : TotM := ⟨(vN ok l 4 : Int), rtS ok l 0, rtS ok l 1, rtS ok l 2, rtS ok l 3, rtS ok l 4⟩
theorem rtS_in (ok : Bool) (l : List UInt8) (k : Nat) : inR (rtS ok l k) := vI_in _ _
theorem rtS_yes {l : List UInt8} (h : 44 ≤ l.length) (k : Nat) (hk : k < 5) : rtS true l k = wrap64 (getN ((l.drop (4 + 8 * k)).take 8) : Int) := by
  unfold rtS vI
  rw [show vN (rtK true l k) (rtL l k) 8 = getN ((rtL l k).take 8) from if_pos ⟨by unfold rtK; rw [Bool.true_and]; exact decide_eq_true (by omega), by unfold rtL; rw [List.length_drop]; omega⟩]
  rfl
theorem rtV_yes {l : List UInt8} (h : 44 ≤ l.length) : rtV true l = totR l := by
  unfold rtV totR
  rw [rtS_yes h 0 (by decide), rtS_yes h 1 (by decide), rtS_yes h 2 (by decide), rtS_yes h 3 (by decide), rtS_yes h 4 (by decide), show vN true l 4 = getN (l.take 4) from if_pos ⟨rfl, by omega⟩]
theorem rtK_end (ok : Bool) (l : List UInt8) : rtK ok l 5 = (ok && decide (44 ≤ l.length)) := rfl
theorem rtV_c (ok : Bool) (l : List UInt8) : 0 ≤ (rtV ok l).c ∧ (rtV ok l).c ≤ 4294967295 := by
  have := vN_lt ok l 4
  unfold rtV
  dsimp only
  omega
/-- the sums so far, and whether none is below 0 -/
def rtA (s : Nat → Int) : Nat → Array Value
  | 0 => #[.int .i64 0, .int .i64 0, .int .i64 0, .int .i64 0, .int .i64 0]
  | 1 => #[.int .i64 (s 0), .int .i64 0, .int .i64 0, .int .i64 0, .int .i64 0]
  | 2 => #[.int .i64 (s 0), .int .i64 (s 1), .int .i64 0, .int .i64 0, .int .i64 0]
  | 3 => #[.int .i64 (s 0), .int .i64 (s 1), .int .i64 (s 2), .int .i64 0, .int .i64 0]
  | 4 => #[.int .i64 (s 0), .int .i64 (s 1), .int .i64 (s 2), .int .i64 (s 3), .int .i64 0]
  | _ + 5 => #[.int .i64 (s 0), .int .i64 (s 1), .int .i64 (s 2), .int .i64 (s 3), .int .i64 (s 4)]
def rtG (s : Nat → Int) : Nat → Bool
  | 0 => true
  | k + 1 => rtG s k && decide (0 ≤ s k)
end Go.Proofs.Ytfdgfeohmkdnoaa
