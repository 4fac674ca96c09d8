/-
  Layer 15's laws: what 'laid' lays, as a value and in memory.
-/
import Derived.Test.YtpgogdnjddeagaaVic3
--import Derived.Test.Zdbg
namespace Go.Proofs.Ytpgogdnjddeagaa
set_option linter.unusedSimpArgs false
set_option linter.unusedVariables false
open Go.RowKit Go.WideShapes Go.ChangeShapes Go.ChangeAt Go.Deep W

structure BQ where
  st : Int
  we : Int
  li : Int
def bq0 : BQ := ⟨0, 0, 0⟩
def toP (x : BQ) : Int × Int := (1 + max 0 x.st % 3, max 0 x.we % 1000)
def toN (x : BQ) : Nat := (max 0 x.li % 8).toNat
theorem toN_le (x : BQ) : toN x ≤ 7 := by unfold toN; omega
def genK {β : Type} (f : BQ → β) (z : β) (L : List BQ) (n k : Nat) : List β := (L.take k).map f ++ List.replicate (n - k) z
theorem genK_length {β : Type} (f : BQ → β) (z : β) (L : List BQ) (n k : Nat) (h1 : k ≤ L.length) (h2 : k ≤ n) : (genK f z L n k).length = n := by
  simp [genK]; omega
theorem genK_zero {β : Type} (f : BQ → β) (z : β) (L : List BQ) (n : Nat) : genK f z L n 0 = List.replicate n z := by simp [genK]
theorem genK_at {β : Type} (f : BQ → β) (z : β) (L : List BQ) (n k j : Nat) (h1 : k ≤ L.length) (h2 : k ≤ n) (hj : j < n) (d : β) : (genK f z L n k).getD j d = if j < k then f (L.getD j bq0) else z := by
  unfold genK
  by_cases h : j < k
  · rw [if_pos h]
    have hl : j < L.length := by omega
    have hlen : j < ((L.take k).map f).length := by simp; omega
    rw [List.getD, List.getElem?_append_left hlen, List.getElem?_map, List.getElem?_take, if_pos h]
    simp [List.getD, hl]
  · rw [if_neg h]
    have : ((L.take k).map f).length ≤ j := by simp; omega
    rw [List.getD, List.getElem?_append_right this]
    simp [show min k L.length = k by omega, show j - k < n - k by omega]
theorem genK_next {β : Type} (f : BQ → β) (z : β) (L : List BQ) (n k : Nat) (h1 : k < L.length) (h2 : k < n) : (genK f z L n k).set k (f (L.getD k bq0)) = genK f z L n (k + 1) := by
  apply List.ext_getElem?
  intro j
  have la := genK_length f z L n k (by omega) (by omega)
  have lb := genK_length f z L n (k + 1) (by omega) (by omega)
  by_cases hj : j < n
  · have e1 := genK_at f z L n k j (by omega) (by omega) hj z
    have e2 := genK_at f z L n (k + 1) j (by omega) (by omega) hj z
    rw [List.getElem?_set]
    have g1 : (genK f z L n k)[j]? = some ((genK f z L n k).getD j z) := by rw [List.getD, List.getElem?_eq_getElem (by omega)]; rfl
    have g2 : (genK f z L n (k + 1))[j]? = some ((genK f z L n (k + 1)).getD j z) := by rw [List.getD, List.getElem?_eq_getElem (by omega)]; rfl
    rw [g1, g2, e1, e2]
    by_cases hk : k = j
    · subst hk
      rw [if_pos rfl, if_pos (by omega), if_pos (by omega)]
    · rw [if_neg hk]
      by_cases h3 : j < k
      · rw [if_pos h3, if_pos (by omega)]
      · rw [if_neg h3, if_neg (by omega)]
  · rw [List.getElem?_eq_none (by rw [List.length_set]; omega), List.getElem?_eq_none (by omega)]
def poolK (L : List BQ) (n k : Nat) : List (Int × Int) := genK toP (1, 0) L n k
def livV (L : List BQ) (n k : Nat) : List Value := genK (fun x => Value.int .i64 (toN x : Int)) (.int .i64 0) L n k
def livZ (L : List BQ) (m : Nat) (b : Int) : Int := if 0 ≤ b ∧ b < m then (toN (L.getD b.toNat bq0) : Int) else 0
/-- how far the map is filled -/
structure SpI (S : Spots) (lg cur k i : Nat) (L : List BQ) : Prop where
  len : S.length = lg
  free : ∀ j, cur ≤ j → S.getD j none = none
  before : ∀ (j : Nat) (b p : Int), S[j]? = some (some (b, p)) → b < k ∨ (b = k ∧ p < i)
  lv : ∀ b : Int, (liveN S b : Int) = if 0 ≤ b ∧ b < k then (toN (L.getD b.toNat bq0) : Int) else if b = k then (i : Int) else 0
  cur : cur ≤ 7 * k + i
theorem spI_first (lg : Nat) (L : List BQ) : SpI (List.replicate lg none) lg 0 0 0 L :=
  ⟨by simp, fun j _ => by simp [List.getD, List.getElem?_replicate]; split <;> rfl, fun j b p h => by
    rw [List.getElem?_replicate] at h
    split at h <;> simp at h, fun b => by
    rw [live_new, if_neg (by omega)]
    split <;> rfl, by omega⟩
theorem SpI.put {S : Spots} {lg cur k i : Nat} {L : List BQ} (h : SpI S lg cur k i L) (hc : cur < lg) : SpI (S.set cur (some ((k : Int), (i : Int)))) lg (cur + 1) k (i + 1) L := by
  have hl : cur < S.length := by rw [h.len]; exact hc
  refine ⟨by rw [List.length_set]; exact h.len, fun j hj => ?_, fun j b p hp => ?_, fun b => ?_, by have := h.cur; omega⟩
  · rw [List.getD, List.getElem?_set_ne (by omega), ← List.getD]
    exact h.free j (by omega)
  · rw [List.getElem?_set] at hp
    by_cases e : cur = j
    · rw [if_pos e] at hp
      rw [if_pos hl] at hp
      obtain ⟨rfl, rfl⟩ : (k : Int) = b ∧ (i : Int) = p := by simpa using hp
      right
      omega
    · rw [if_neg e] at hp
      rcases h.before j b p hp with h1 | h1
      · exact .inl h1
      · exact .inr ⟨h1.1, by omega⟩
  · have h1 := liveN_set hl (some ((k : Int), (i : Int))) b
    rw [h.free cur (Nat.le_refl _)] at h1
    have h2 := h.lv b
    simp at h1
    by_cases hb : (k : Int) = b
    · subst hb
      rw [if_neg (by omega), if_pos rfl] at h2 ⊢
      simp at h1
      omega
    · rw [if_neg hb] at h1
      by_cases hr : 0 ≤ b ∧ b < k
      · rw [if_pos hr] at h2 ⊢; omega
      · rw [if_neg hr, if_neg (fun e => hb e.symm)] at h2 ⊢; omega
theorem SpI.next {S : Spots} {lg cur k : Nat} {L : List BQ} (h : SpI S lg cur k (toN (L.getD k bq0)) L) : SpI S lg cur (k + 1) 0 L := by
  have hn := toN_le (L.getD k bq0)
  refine ⟨h.len, h.free, fun j b p hp => ?_, fun b => ?_, by have := h.cur; omega⟩
  · rcases h.before j b p hp with h1 | h1 <;> (left; omega)
  · rw [h.lv b]
    by_cases h1 : 0 ≤ b ∧ b < k
    · rw [if_pos h1, if_pos ⟨h1.1, by omega⟩]
    · rw [if_neg h1]
      by_cases h2 : b = k
      · subst h2
        rw [if_pos rfl, if_pos ⟨by omega, by omega⟩, Int.toNat_natCast]
      · rw [if_neg h2, if_neg (by omega)]
        split <;> rfl
theorem SpI.owner {S : Spots} {lg cur k i : Nat} {L : List BQ} (h : SpI S lg cur k i L) : W.owner S ((k : Int), (i : Int)) = none := owner_isnt (fun j hj => by
  rcases h.before j _ _ hj with h1 | h1 <;> omega)
theorem SpI.lvZ {S : Spots} {lg cur k n : Nat} {L : List BQ} (h : SpI S lg cur k 0 L) (hn : k ≤ n) : Go.Proofs.Ytpgogdnjddeagaa.lvZ S n = livZ L k := by
  funext b
  unfold Go.Proofs.Ytpgogdnjddeagaa.lvZ livZ
  rw [h.lv b]
  by_cases h1 : 0 ≤ b ∧ b < k
  · rw [if_pos h1, if_pos ⟨h1.1, by omega⟩, if_pos h1]
  · rw [if_neg h1, if_neg h1]
    split
    · split <;> rfl
    · rfl
/-- what laid has laid -/
structure LaidAt (W : World) (B a1 a2 a3 p q m q' o l r s t : Nat) (PL : List (Int × Int)) (nb : Nat) (S : Spots) (RL : List (Int × Int)) (LV : List Value) : Prop where
  pool : PoolAt W p q PL
  map : WhereAt W m q' o l 8 nb S
  ref : RPAt W r s t RL
  live : W.heap[a3]? = some (.cells LV.toArray 3 (0, 0))
  ord1 : B ≤ p ∧ B ≤ q ∧ p < a1 ∧ q < a1
  ord2 : a1 ≤ m ∧ a1 ≤ q' ∧ a1 ≤ o ∧ a1 ≤ l ∧ m < a2 ∧ q' < a2 ∧ o < a2 ∧ l < a2
  ord3 : a2 ≤ r ∧ a2 ≤ s ∧ a2 ≤ t ∧ r < a3 ∧ s < a3 ∧ t < a3
section
variable {W W' : World} {B a1 a2 a3 p q m q' o l r s t : Nat} {PL : List (Int × Int)} {nb : Nat} {S : Spots} {RL : List (Int × Int)} {LV : List Value}
theorem LaidAt.below (h : LaidAt W B a1 a2 a3 p q m q' o l r s t PL nb S RL LV) (hb : Below W.heap.size W W') : LaidAt W' B a1 a2 a3 p q m q' o l r s t PL nb S RL LV :=
  ⟨h.pool.below hb, h.map.below hb, h.ref.below hb, (hb.block _ (heap_lt h.live)).trans h.live, h.ord1, h.ord2, h.ord3⟩
theorem LaidAt.drew (h : LaidAt W B a1 a2 a3 p q m q' o l r s t PL nb S RL LV) : LaidAt W.drew B a1 a2 a3 p q m q' o l r s t PL nb S RL LV :=
  ⟨h.pool.drew, h.map.drew, h.ref.drew, h.live, h.ord1, h.ord2, h.ord3⟩
theorem LaidAt.setPool (h : LaidAt W B a1 a2 a3 p q m q' o l r s t PL nb S RL LV) {PL' : List (Int × Int)} (hp : PoolAt W' p q PL') (ho : Only q W W') : LaidAt W' B a1 a2 a3 p q m q' o l r s t PL' nb S RL LV := by
  have h1 := h.ord1
  have h2 := h.ord2
  have h3 := h.ord3
  have hl := h.map.lt
  exact ⟨hp, h.map.kept (ho.block _ hl.1 (by omega)) (ho.block _ hl.2.1 (by omega)) (ho.block _ hl.2.2.1 (by omega)) (ho.block _ hl.2.2.2 (by omega)), h.ref.only ho (by omega) (by omega) (by omega), (ho.block _ (heap_lt h.live) (by omega)).trans h.live, h1, h2, h3⟩
theorem LaidAt.setMap (h : LaidAt W B a1 a2 a3 p q m q' o l r s t PL nb S RL LV) {S' : Spots} (hm : WhereAt W' m q' o l 8 nb S') (ho : OnlyL [q', o, l] W W') : LaidAt W' B a1 a2 a3 p q m q' o l r s t PL nb S' RL LV := by
  have h1 := h.ord1
  have h2 := h.ord2
  have h3 := h.ord3
  have hk : ∀ (k : Nat) (d : Array Value) (t : TypeId) (fz : Nat × Nat), W.heap[k]? = some (.cells d t fz) → k ∉ [q', o, l] → W'.heap[k]? = some (.cells d t fz) := fun k d t fz e hn => (ho.block k (heap_lt e) hn).trans e
  exact ⟨⟨hk _ _ _ _ h.pool.head (by simp; omega), hk _ _ _ _ h.pool.row (by simp; omega), h.pool.ne⟩, hm,
    ⟨hk _ _ _ _ h.ref.head (by simp; omega), hk _ _ _ _ h.ref.st (by simp; omega), hk _ _ _ _ h.ref.we (by simp; omega), h.ref.n1, h.ref.n2, h.ref.n3⟩, hk _ _ _ _ h.live (by simp; omega), h1, h2, h3⟩
theorem LaidAt.setSt (h : LaidAt W B a1 a2 a3 p q m q' o l r s t PL nb S RL LV) (i : Nat) (hi : i < RL.length) (v : Int) : LaidAt (W.setCell ⟨s, i, none⟩ (.int .i64 v)) B a1 a2 a3 p q m q' o l r s t PL nb S (RL.set i (v, (RL.getD i (0, 0)).2)) LV := by
  have h1 := h.ord1
  have h2 := h.ord2
  have h3 := h.ord3
  have ho := Only.setCell (a := W) s i (.int .i64 v)
  have hl := h.map.lt
  exact ⟨h.pool.only ho (by omega) (by omega), h.map.kept (ho.block _ hl.1 (by omega)) (ho.block _ hl.2.1 (by omega)) (ho.block _ hl.2.2.1 (by omega)) (ho.block _ hl.2.2.2 (by omega)), h.ref.setFst i hi v, (ho.block _ (heap_lt h.live) (by omega)).trans h.live, h1, h2, h3⟩
theorem LaidAt.setWe (h : LaidAt W B a1 a2 a3 p q m q' o l r s t PL nb S RL LV) (i : Nat) (hi : i < RL.length) (v : Int) : LaidAt (W.setCell ⟨t, i, none⟩ (.int .i64 v)) B a1 a2 a3 p q m q' o l r s t PL nb S (RL.set i ((RL.getD i (0, 0)).1, v)) LV := by
  have h1 := h.ord1
  have h2 := h.ord2
  have h3 := h.ord3
  have ho := Only.setCell (a := W) t i (.int .i64 v)
  have hl := h.map.lt
  exact ⟨h.pool.only ho (by omega) (by omega), h.map.kept (ho.block _ hl.1 (by omega)) (ho.block _ hl.2.1 (by omega)) (ho.block _ hl.2.2.1 (by omega)) (ho.block _ hl.2.2.2 (by omega)), h.ref.setSnd i hi v, (ho.block _ (heap_lt h.live) (by omega)).trans h.live, h1, h2, h3⟩
theorem LaidAt.setLv (h : LaidAt W B a1 a2 a3 p q m q' o l r s t PL nb S RL LV) (i : Nat) (v : Value) : LaidAt (W.setCell ⟨a3, i, none⟩ v) B a1 a2 a3 p q m q' o l r s t PL nb S RL (LV.set i v) := by
  have h1 := h.ord1
  have h2 := h.ord2
  have h3 := h.ord3
  have ho := Only.setCell (a := W) a3 i v
  have hl := h.map.lt
  exact ⟨h.pool.only ho (by omega) (by omega), h.map.kept (ho.block _ hl.1 (by omega)) (ho.block _ hl.2.1 (by omega)) (ho.block _ hl.2.2.1 (by omega)) (ho.block _ hl.2.2.2 (by omega)), h.ref.only ho (by omega) (by omega) (by omega), by rw [block_setCell h.live]; simp, h1, h2, h3⟩
end
/-- a slice of blocks that comes in -/
def BqIn (w : World) (a : Option Addr) (L : List BQ) : Prop := ∀ i, i < L.length → ∃ b off, a = some ⟨b, off, none⟩ ∧ b < w.heap.size ∧ w.cell? ⟨b, off + i * 3, none⟩ = some (.int .i64 (L.getD i bq0).st) ∧ w.cell? ⟨b, off + i * 3 + 1, none⟩ = some (.int .i64 (L.getD i bq0).we) ∧ w.cell? ⟨b, off + i * 3 + 2, none⟩ = some (.int .i64 (L.getD i bq0).li)
theorem BqIn.below {w w' : World} {a : Option Addr} {L : List BQ} (h : BqIn w a L) (hb : Below w.heap.size w w') : BqIn w' a L := fun i hi => by
  obtain ⟨b, off, ha, hbl, c0, c1, c2⟩ := h i hi
  exact ⟨b, off, ha, Nat.lt_of_lt_of_le hbl hb.size, cell_keep c0 hbl hb, cell_keep c1 hbl hb, cell_keep c2 hbl hb⟩
end Go.Proofs.Ytpgogdnjddeagaa
