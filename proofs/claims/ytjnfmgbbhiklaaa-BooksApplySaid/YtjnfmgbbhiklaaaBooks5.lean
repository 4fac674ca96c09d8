/-
  Layer 23: the amounts of a posting, account by account, in memory.
-/
import Derived.Test.YtjnfmgbbhiklaaaBooks4
import Derived.Test.YtjnfmgbbhiklaaaKitX

namespace Go.Proofs.Ytjnfmgbbhiklaaa
set_option linter.unusedSimpArgs false
set_option linter.unusedVariables false
open Go.RowKit Go.WideShapes Go.ChangeShapes Go.ChangeAt Go.Deep
def amts (L : List LnM) (a : Int) : List Int := (L.filter fun x => decide (x.c = a)).map (·.n)
theorem amts_sum (L : List LnM) (a : Int) : (amts L a).sum = sumA L a := rfl
theorem amts_snoc (L : List LnM) (x : LnM) (a : Int) : amts (L ++ [x]) a = if x.c = a then amts L a ++ [x.n] else amts L a := by
  unfold amts
  rw [List.filter_append, List.map_append]
  by_cases h : x.c = a
  · rw [if_pos h, List.filter_cons_of_pos (by simpa using h)]; rfl
  · rw [if_neg h, List.filter_cons_of_neg (by simpa using h)]; simp
theorem amts_len (L : List LnM) (a : Int) : (amts L a).length ≤ L.length := by unfold amts; rw [List.length_map]; exact List.length_filter_le _ L
theorem amts_in {L : List LnM} (h : ∀ x ∈ L, inR x.n) (a : Int) : ∀ y ∈ amts L a, inR y := fun y hy => by
  unfold amts at hy
  obtain ⟨x, hx, rfl⟩ := List.mem_map.1 hy
  exact h x (List.mem_filter.1 hx).1
theorem amts_none {L : List LnM} {a : Int} (h : hasB L a = false) : amts L a = [] := by
  unfold amts
  rw [List.filter_eq_nil_iff.2]
  · rfl
  · intro x hx
    have := hasB_no.1 h x hx
    simpa using this
theorem hasB_snoc (L : List LnM) (x : LnM) (a : Int) : hasB (L ++ [x]) a = (hasB L a || decide (x.c = a)) := by
  unfold hasB
  rw [List.any_append]
  simp
/-- what a map of amounts holds of each account -/
structure AmF (w : World) (B : Nat) (L : List LnM) (f : Lit → Option Value) : Prop where
  no : ∀ a, inR a → hasB L a = false → f (.int .i64 a) = none
  yes : ∀ a, inR a → hasB L a = true → ∃ v, f (.int .i64 a) = some v ∧ w.ownsRow B 37 1 v (amts L a).length ((amts L a).map (Value.int .i64))
  apart : ∀ a b v u, inR a → inR b → a ≠ b → f (.int .i64 a) = some v → f (.int .i64 b) = some u → ApartV v u
theorem AmF.below {w w' : World} {B : Nat} {L : List LnM} {f : Lit → Option Value} (h : AmF w B L f) (hb : Below w.heap.size w w') : AmF w' B L f :=
  ⟨h.no, fun a ha hl => by obtain ⟨v, h1, h2⟩ := h.yes a ha hl; exact ⟨v, h1, owns_below h2 hb⟩, h.apart⟩
theorem AmF.row {w : World} {B : Nat} {L : List LnM} {f : Lit → Option Value} (h : AmF w B L f) {a : Int} (ha : inR a) : w.ownsRow B 37 1 ((f (.int .i64 a)).getD (.slice none 0 0)) (amts L a).length ((amts L a).map (Value.int .i64)) := by
  cases hl : hasB L a with
  | true =>
    obtain ⟨v, h1, h2⟩ := h.yes a ha hl
    rw [h1]
    exact h2
  | false =>
    rw [h.no a ha hl, amts_none hl]
    exact World.ownsRow_nil _ _ _ _
theorem AmF.others {w : World} {B : Nat} {L : List LnM} {f : Lit → Option Value} (h : AmF w B L f) {a b : Int} (ha : inR a) (hb : inR b) (hne : a ≠ b) {u : Value} (hu : f (.int .i64 b) = some u) : ApartV ((f (.int .i64 a)).getD (.slice none 0 0)) u := by
  cases hf : f (.int .i64 a) with
  | none => exact apart_nil u
  | some v => exact h.apart a b v u ha hb hne hf hu
/-- an amount more -/
theorem AmF.put {w w1 w2 : World} {B : Nat} {L : List LnM} {f : Lit → Option Value} (h : AmF w B L f) {a n : Int} (ha : inR a) {g c' : Nat} (hg : w.grownBy w1 ((f (.int .i64 a)).getD (.slice none 0 0)).ownBlock)
    (ho : w1.ownsRow B 37 1 (.slice (some ⟨g, 0, none⟩) ((amts L a).length + 1) c') ((amts L a).length + 1) ((amts L a).map (Value.int .i64) ++ [.int .i64 n]))
    (hl : ((f (.int .i64 a)).getD (.slice none 0 0)).ownBlock = some g ∨ w.heap.size ≤ g) (hst : ∀ (m : Nat) (v : Value) (xs : List Value), w1.ownsRow B 37 1 v m xs → w2.ownsRow B 37 1 v m xs) :
    AmF w2 B (L ++ [⟨a, n⟩]) (fun l => if l.sameKey (.int .i64 a) = true then some (.slice (some ⟨g, 0, none⟩) ((amts L a).length + 1) c') else f l) := by
  have hsk : ∀ b : Int, (Lit.int .i64 b).sameKey (.int .i64 a) = true ↔ b = a := fun b => same_int b a
  have hother : ∀ b : Int, b ≠ a → (if (Lit.int .i64 b).sameKey (.int .i64 a) = true then some (Value.slice (some ⟨g, 0, none⟩) ((amts L a).length + 1) c') else f (.int .i64 b)) = f (.int .i64 b) := fun b hb => if_neg fun h => hb ((hsk b).1 h)
  have hself : (if (Lit.int .i64 a).sameKey (.int .i64 a) = true then some (Value.slice (some ⟨g, 0, none⟩) ((amts L a).length + 1) c') else f (.int .i64 a)) = some (Value.slice (some ⟨g, 0, none⟩) ((amts L a).length + 1) c') := if_pos ((hsk a).2 rfl)
  have hap : ∀ b u, inR b → b ≠ a → f (.int .i64 b) = some u → ApartV (.slice (some ⟨g, 0, none⟩) ((amts L a).length + 1) c') u := fun b u hb hne hu => by
    cases hlb : hasB L b with
    | false => rw [h.no b hb hlb] at hu; cases hu
    | true =>
      obtain ⟨u', h1, h2⟩ := h.yes b hb hlb
      obtain rfl : u' = u := by rw [h1] at hu; exact Option.some.inj hu
      exact apart_grown h2 (h.others ha hb (fun e => hne e.symm) hu) hl
  refine ⟨fun b hb hlb => ?_, fun b hb hlb => ?_, fun b c v u hb hc hne hv hu => ?_⟩
  · rw [hasB_snoc] at hlb
    have hne : b ≠ a := fun e => by simp [e] at hlb
    rw [hother b hne]
    exact h.no b hb (by simpa using (Bool.or_eq_false_iff.1 hlb).1)
  · by_cases e : b = a
    · subst e
      refine ⟨_, hself, ?_⟩
      rw [amts_snoc, if_pos rfl]
      have := hst _ _ _ ho
      simpa using this
    · rw [hother b e]
      rw [hasB_snoc] at hlb
      have hlb' : hasB L b = true := by
        rcases (Bool.or_eq_true_iff.1 hlb) with h1 | h1
        · exact h1
        · exact absurd (of_decide_eq_true h1).symm e
      obtain ⟨v, h1, h2⟩ := h.yes b hb hlb'
      refine ⟨v, h1, ?_⟩
      rw [amts_snoc, if_neg (fun e' : a = b => e e'.symm)]
      exact hst _ _ _ (owns_apart h2 (h.others ha hb (fun e' => e e'.symm) h1) hg)
  · by_cases e : b = a
    · subst e
      rw [hself] at hv
      rw [hother c (fun e => hne e.symm)] at hu
      rw [← Option.some.inj hv]
      exact hap c u hc (fun e => hne e.symm) hu
    · rw [hother b e] at hv
      by_cases e2 : c = a
      · subst e2
        rw [hself] at hu
        rw [← Option.some.inj hu]
        exact (hap b v hb e hv).symm
      · rw [hother c e2] at hu
        exact h.apart b c v u hb hc hne hv hu
/-- the amounts in memory -/
def AmAt (w : World) (B am : Nat) (L : List LnM) : Prop := ∃ f n c, n ≤ L.length ∧ c ≤ L.length ∧ MapIs w Try.prog 3 am n c f ∧ AmF w B L f
theorem AmAt.made (w : World) (B : Nat) : AmAt (w.alloc (.map #[] 0)) B w.heap.size [] :=
  ⟨_, 0, 0, Nat.le_refl _, Nat.le_refl _, MapIs.made w Try.prog 3, fun _ _ _ => rfl, (fun a _ h => by simp [hasB] at h), fun a b v u _ _ _ h _ => by cases h⟩
theorem AmAt.below {w w' : World} {B am : Nat} {L : List LnM} (h : AmAt w B am L) (hb : Below w.heap.size w w') : AmAt w' B am L := by
  obtain ⟨f, n, c, h1, h2, h3, h4⟩ := h
  exact ⟨f, n, c, h1, h2, h3.below hb, h4.below hb⟩
theorem AmAt.drew {w : World} {B am : Nat} {L : List LnM} (h : AmAt w B am L) : AmAt w.drew B am L := h.below ((Below.refl _ _).drew)
/-- 'm[k] = v', at the operation, alone -/
theorem wp_mapStore {P : Program} (w : World) {o : Oper} {a : Act} {K0 : Act → World → Prop} {Q : Exit → Act → World → Prop}
    (m x v : Operand) (t : TypeId) (hop : o.op = Op.mapUpdate t m x v)
    (k e : TypeId) (K : Go.Maps.Keyed P k) (ht : P.underlying t = some (.map k e)) (b n c : Nat) (f : Lit → Option Value)
    (hm : a.eval m = .map (some b)) (hown : MapIs w P k b n c f) (hn : n < maxLen) (key val : Value) (kl : Lit) (hx : a.eval x = key) (hv : a.eval v = val) (hkey : keyOf P k key = some kl) (hk : WideAt.IsKeyLit kl)
    (hK : ∀ w', MapIs w' P k b (n + 1) (if (f kl).isSome then c else c + 1) (fun l => if l.sameKey kl = true then some val else f l) → w.grownBy w' (some b) → K0 (a.put o.dst undef) w') :
    o.wp P a w K0 Q := by
  obtain ⟨w', hrun, r1, r2⟩ := hown.store K ht hn val hkey hk
  unfold Oper.wp
  simp [execOp, hop, hm, hx, hv, hrun, Result.andThen]
  exact hK w' r1 r2
theorem zero_row (w : World) : (zeroValue 72).run Try.prog w = .ok (.slice none 0 0) w := by kernel_rfl
/-- the rows are no map: they stay where the map turns -/
theorem only_rows {w w' : World} {am : Nat} (ho : Only am w w') (hm : ∀ d t fz, w.heap[am]? ≠ some (.cells d t fz)) {B e m n : Nat} {v : Value} {xs : List Value} (h : w.ownsRow B e m v n xs) : w'.ownsRow B e m v n xs := owns_only h ho hm
end Go.Proofs.Ytjnfmgbbhiklaaa
