/-
  Lemmas and contracts of this project's own, put together: KitE, KitF.
-/
import Derived.Deep.Slices
import Derived.Deep.Fields
import Derived.ChangeSame
import Derived.Test.YtjfmkfhjbdiojaaGreatPk2
namespace Go.Proofs.YtjfmkfhjbdiojaaGreat
set_option linter.unusedSimpArgs false
set_option linter.unusedVariables false
open Go.RowKit Go.WideShapes Go.ChangeShapes Go.ChangeAt Go.Deep

/-- a cell of such a type -/
def CellIs (d : TypeDesc) (v : Value) : Prop :=
  match d with
  | .int k => ∃ a, v = .int k a ∧ (Lit.int k a).wf = true
  | .string => ∃ s, v = .string s ∧ s.size ≤ 9223372036854775807
  | .bool => ∃ b, v = .bool b
  | _ => True
/-- v is a slice of rows of n cells each -/
def RowsAt (w : World) (v : Value) (n : Nat) (L : List (List Value)) : Prop :=
  ∃ (a : Option Addr) (cap : Nat), v = .slice a L.length cap ∧ L.length ≤ maxLen ∧ L.length ≤ cap ∧ cap ≤ maxLen ∧
    ∀ i, i < L.length → ∃ b off, a = some ⟨b, off, none⟩ ∧ b < w.heap.size ∧ ∀ j, j < n → w.cell? ⟨b, off + (i * n + j), none⟩ = (L.getD i [])[j]?
theorem list_of_all {α : Type} (d : α) (p : Nat → α → Prop) : ∀ n : Nat, (∀ i, i < n → ∃ x, p i x) → ∃ l : List α, l.length = n ∧ ∀ i, i < n → p i (l.getD i d)
  | 0, _ => ⟨[], rfl, fun i hi => by omega⟩
  | n + 1, h => by
    obtain ⟨l, hl, hp⟩ := list_of_all d p n (fun i hi => h i (by omega))
    obtain ⟨x, hx⟩ := h n (by omega)
    refine ⟨l ++ [x], by simp [hl], fun i hi => ?_⟩
    by_cases e : i = n
    · subst e
      have : (l ++ [x]).getD i d = x := by simp [List.getD, ← hl]
      rw [this]; exact hx
    · have : (l ++ [x]).getD i d = l.getD i d := by
        simp only [List.getD]
        rw [List.getElem?_append_left (by omega)]
      rw [this]; exact hp i (by omega)
theorem rows_typed {α : Type} (f : α → List Value) (p : α → Prop) : ∀ rows : List (List Value), (∀ r ∈ rows, ∃ x, r = f x ∧ p x) → ∃ L : List α, rows = L.map f ∧ ∀ x ∈ L, p x
  | [], _ => ⟨[], rfl, by simp⟩
  | r :: rows, h => by
    obtain ⟨x, rfl, hx⟩ := h r (by simp)
    obtain ⟨L, rfl, hL⟩ := rows_typed f p rows (fun r' hr' => h r' (by simp [hr']))
    exact ⟨x :: L, rfl, by simpa using ⟨hx, hL⟩⟩
theorem getD_map {α : Type} (f : α → List Value) (L : List α) (d : α) (i : Nat) (h : i < L.length) : (L.map f).getD i [] = f (L.getD i d) := by
  simp [List.getD, h]

section
variable {H : Type} {enc : TypeId × Value → H} {P : Program} {w : World} {base : Nat} {sp : Nat → Bool} {held : Bool} {r : Reach} {b0 : Nat}
theorem cellIs_of {m : Nat} {t : TypeId} {d : TypeDesc} {u : Value} {y : DataW H × List MemPlace} (hd : P.underlying t = some d) (h : DataW.trod enc P w base sp held m t [u] = some y) : CellIs d u := by
  unfold CellIs
  split
  · obtain ⟨a, ea, _, ha⟩ := DataW.trod_int hd h
    simp at ea
    exact ⟨a, ea, ha⟩
  · obtain ⟨s, es, _, hs⟩ := DataW.trod_string hd h
    simp at es
    exact ⟨s, es, hs⟩
  · obtain ⟨b, eb, _⟩ := DataW.trod_bool hd h
    simp at eb
    exact ⟨b, eb⟩
  · trivial
theorem open_rows {t e : TypeId} {fs : Array Field} {v : Value} {d : DataW H} {ps : List MemPlace} (ds : List TypeDesc) (ht : P.underlying t = some (.slice e)) (he : P.underlying e = some (.struct fs))
    (hone : oneCellFields P fs = true) (hC : P.cellsOf e = fs.size) (hz : 0 < fs.size) (hds : ds.length = fs.size) (hty : ∀ j, j < fs.size → (fs[j]?).bind (fun f => P.underlying f.type) = ds[j]?)
    (hv : Value.okWide P w r b0 t v) (h : DataW.Trod enc P w base sp held t v d ps) :
    ∃ L : List (List Value), RowsAt w v fs.size L ∧ ∀ x ∈ L, x.length = fs.size ∧ ∀ (j : Nat) c u, ds[j]? = some c → x[j]? = some u → CellIs c u := by
  obtain ⟨a, len, cap, rfl⟩ := okWide_slice ht hv
  obtain ⟨fuel, hh⟩ := h
  rcases open_slice ht hh with ⟨hcs, _⟩ | ⟨a', len', cap', m, n, D, Pl, hcs, _, hl, hm, hmm, _, hi⟩
  · simp [Value.cells] at hcs
    obtain ⟨rfl, rfl, rfl⟩ := hcs
    exact ⟨[], ⟨none, 0, rfl, by simp, by simp, by simp, by simp⟩, by simp⟩
  · simp [Value.cells] at hcs
    obtain ⟨rfl, rfl, rfl⟩ := hcs
    have hlm : len ≤ m := by rw [hmm]; split <;> omega
    obtain ⟨L, hL, hp⟩ := list_of_all (α := List Value) [] (fun i cs' => cs'.length = fs.size ∧ (∀ j, j < fs.size → w.cell? (a'.add (i * fs.size + j)) = cs'[j]?) ∧ ∀ (j : Nat) c u, ds[j]? = some c → cs'[j]? = some u → CellIs c u) len (fun i hil => by
      obtain ⟨cs', h1, h2⟩ := hi i (by omega)
      rw [hC] at h1
      obtain ⟨_, hcl, hat⟩ := World.cells?_some h1
      obtain ⟨ys, n', _, _, _, hyl, hf⟩ := DataW.trod_struct he h2
      refine ⟨cs', hcl, fun j hj => by rw [← Go.Deep.add_add]; exact hat j hj, fun j c u hc hu => ?_⟩
      have hj : j < fs.size := by rw [← hds]; exact (List.getElem?_eq_some_iff.1 hc).1
      have ht' := hty j hj
      rw [hc] at ht'
      cases hfj : fs[j]? with
      | none => rw [hfj] at ht'; cases ht'
      | some f =>
        rw [hfj] at ht'
        obtain ⟨ho, hk⟩ := hone_of hone j f hfj
        have h3 := hf j f hfj
        rw [ho, hk] at h3
        have hone' : (cs'.drop j).take 1 = [u] := by
          obtain ⟨hj2, rfl⟩ := List.getElem?_eq_some_iff.1 hu
          rw [List.drop_eq_getElem_cons hj2]
          rfl
        rw [hone'] at h3
        have hys : ys[j]? = some (ys[j]'(by omega)) := List.getElem?_eq_getElem (by omega)
        exact cellIs_of (by simpa using ht') (h3.trans hys))
    refine ⟨L, ⟨some a', cap, by rw [hL], by rw [hL]; omega, by rw [hL]; omega, hm, fun i hiL => ?_⟩, fun x hx => ?_⟩
    · obtain ⟨h1, h2, _⟩ := hp i (by omega)
      have h0 := h2 0 hz
      have hu : (L.getD i [])[0]? = some ((L.getD i [])[0]'(by omega)) := List.getElem?_eq_getElem (by omega)
      rw [hu] at h0
      have hspot : a'.spot = none := by
        obtain ⟨g1, g2, _⟩ := hp 0 (by omega)
        have h00 := g2 0 hz
        rw [List.getElem?_eq_getElem (show 0 < (L.getD 0 []).length by omega)] at h00
        have := World.cell?_spot h00
        simpa [Addr.add] using this
      have hblt := World.block_lt_of_cell? w _ h0
      obtain ⟨b, off, spot⟩ := a'
      have hs : spot = none := hspot
      subst hs
      refine ⟨b, off, rfl, ?_, fun j hj => by rw [← Go.WideShapes.add_plain]; exact h2 j hj⟩
      rw [Go.WideShapes.add_plain] at hblt
      exact hblt
    · obtain ⟨i, hi2, rfl⟩ := List.getElem_of_mem hx
      have := hp i (by omega)
      have e1 : L.getD i [] = L[i] := by simp [List.getD, hi2]
      rw [e1] at this
      exact ⟨this.1, this.2.2⟩
end
end Go.Proofs.YtjfmkfhjbdiojaaGreat

namespace Go.Proofs.YtjfmkfhjbdiojaaGreat
set_option linter.unusedSimpArgs false
set_option linter.unusedVariables false
open Go.RowKit

theorem flat_length {α : Type} (f : α → List Value) (n : Nat) (hf : ∀ x, (f x).length = n) : ∀ L : List α, (L.flatMap f).length = L.length * n
  | [] => by simp
  | x :: L => by rw [List.flatMap_cons, List.length_append, hf, flat_length f n hf L, List.length_cons, Nat.succ_mul]; omega
theorem flat_at {α : Type} (f : α → List Value) (n : Nat) (hf : ∀ x, (f x).length = n) (d : α) : ∀ (L : List α) (i j : Nat), i < L.length → j < n → (L.flatMap f)[i * n + j]? = (f (L.getD i d))[j]?
  | [], i, j, h, _ => by simp at h
  | x :: L, 0, j, _, hj => by
    rw [List.flatMap_cons, List.getElem?_append_left (by rw [hf]; omega)]
    simp
  | x :: L, i + 1, j, h, hj => by
    rw [List.flatMap_cons, List.getElem?_append_right (by rw [hf, Nat.succ_mul]; omega), hf, show (i + 1) * n + j - n = i * n + j by rw [Nat.succ_mul]; omega,
      flat_at f n hf d L i j (by simpa using h) hj]
    simp
theorem flat_snoc {α : Type} (f : α → List Value) (L : List α) (x : α) : (L ++ [x]).flatMap f = L.flatMap f ++ f x := by simp
/-- the cells of an owned row of rows -/
theorem owns_rows {α : Type} {w : World} {B e n m : Nat} {a : Option Addr} {cap : Nat} (f : α → List Value) (hf : ∀ x, (f x).length = n) (d : α) {L : List α} (h : w.ownsRow B e n (.slice a m cap) L.length (L.flatMap f)) (i : Nat) (hi : i < L.length) :
    ∃ g, a = some ⟨g, 0, none⟩ ∧ B ≤ g ∧ g < w.heap.size ∧ ∀ j, j < n → w.cell? ⟨g, i * n + j, none⟩ = (f (L.getD i d))[j]? := by
  rcases h.2 with ⟨hv, hn⟩ | ⟨g, cap', cur, hv, hB, hg, hnc, _, hsz, hx⟩
  · omega
  · simp only [Value.slice.injEq] at hv
    obtain ⟨rfl, _, rfl⟩ := hv
    refine ⟨g, rfl, hB, heap_lt hg, fun j hj => ?_⟩
    rw [cell_of_block hg, ← flat_at f n hf d L i j hi hj, ← hx, List.getElem?_take, if_pos ?_]
    · simp
    · have := Nat.mul_le_mul_right n (show i + 1 ≤ L.length from hi)
      rw [Nat.succ_mul] at this
      omega
theorem owns_slice_n {w : World} {B e n m : Nat} {v : Value} {xs : List Value} (h : w.ownsRow B e m v n xs) : ∃ a cap, v = .slice a n cap := by
  rcases h.2 with ⟨rfl, rfl⟩ | ⟨g, cap, cur, rfl, _⟩
  · exact ⟨none, 0, rfl⟩
  · exact ⟨_, cap, rfl⟩
theorem owns_below {w w' : World} {B e n m : Nat} {v : Value} {xs : List Value} (h : w.ownsRow B e m v n xs) (hb : Below w.heap.size w w') : w'.ownsRow B e m v n xs := by
  refine ⟨h.1, ?_⟩
  rcases h.2 with h3 | ⟨g, cap', cur, hv, hg, hh, h4⟩
  · exact .inl h3
  · exact .inr ⟨g, cap', cur, hv, hg, by rw [hb.block g (heap_lt hh)]; exact hh, h4⟩
end Go.Proofs.YtjfmkfhjbdiojaaGreat
