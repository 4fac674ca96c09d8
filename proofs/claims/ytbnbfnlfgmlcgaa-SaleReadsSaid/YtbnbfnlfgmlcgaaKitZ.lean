/-
  General lemmas of this project's own: rows of the call's own that begin anywhere in their block; append onto them.
-/
import Derived.Test.YtbnbfnlfgmlcgaaKitW
import Derived.ArgAppend
namespace Go.Proofs.Ytbnbfnlfgmlcgaa
set_option linter.unusedSimpArgs false
set_option linter.unusedVariables false
open Go.RowKit
def setL (cur : Array Value) : Nat → List Value → Array Value
  | _, [] => cur
  | o, v :: r => setL (cur.setIfInBounds o v) (o + 1) r
theorem setL_size : ∀ (vs : List Value) (o : Nat) (cur : Array Value), (setL cur o vs).size = cur.size
  | [], _, _ => rfl
  | v :: r, o, cur => by show (setL (cur.setIfInBounds o v) (o + 1) r).size = _; rw [setL_size r]; simp
theorem setL_at : ∀ (vs : List Value) (o : Nat) (cur : Array Value) (j : Nat), o + vs.length ≤ cur.size → (setL cur o vs)[j]? = if o ≤ j ∧ j < o + vs.length then vs[j - o]? else cur[j]?
  | [], o, cur, j, _ => by
    show cur[j]? = _
    rw [if_neg (by rw [List.length_nil]; omega)]
  | v :: r, o, cur, j, h => by
    rw [List.length_cons] at h
    show (setL (cur.setIfInBounds o v) (o + 1) r)[j]? = _
    rw [setL_at r (o + 1) _ j (by simp; omega)]
    by_cases h1 : o + 1 ≤ j ∧ j < o + 1 + r.length
    · rw [if_pos h1, if_pos (by simp only [List.length_cons]; omega), show j - o = (j - (o + 1)) + 1 by omega, List.getElem?_cons_succ]
    · rw [if_neg h1]
      by_cases h2 : j = o
      · subst h2
        rw [if_pos (by simp only [List.length_cons]; omega), Nat.sub_self, List.getElem?_cons_zero, Array.getElem?_setIfInBounds_self_of_lt (by omega)]
      · rw [if_neg (by simp only [List.length_cons]; omega), Array.getElem?_setIfInBounds_ne (by omega)]
theorem setCells_block {b : Nat} {e : TypeId} {fz : Nat × Nat} : ∀ (vs : List Value) (o : Nat) (w : World) (cur : Array Value), w.heap[b]? = some (.cells cur e fz) → (w.setCells b o vs).heap[b]? = some (.cells (setL cur o vs) e fz)
  | [], _, _, _, h => h
  | v :: r, o, w, cur, h => setCells_block r (o + 1) _ _ (block_setCell h o v)
theorem setCells_other {b : Nat} : ∀ (vs : List Value) (o : Nat) (w : World), w.grownBy (w.setCells b o vs) (some b)
  | [], _, w => ⟨rfl, rfl, rfl, Nat.le_refl _, fun _ _ _ => rfl⟩
  | v :: r, o, w => by
    have h := setCells_other (b := b) r (o + 1) (w.setCell ⟨b, o, none⟩ v)
    refine ⟨h.os.trans rfl, h.tape.trans rfl, h.output.trans rfl, Nat.le_trans (by simp) h.size, fun k hk hne => (h.block k (by simpa using hk) hne).trans ?_⟩
    exact block_setCell_other (fun e => hne (by rw [e])) o v
/-- a row of the call's own, from cell o of its block on -/
def OffRow (w : World) (B e size : Nat) (v : Value) (n : Nat) (xs : List Value) : Prop :=
  xs.length = n * size ∧ ((v = .slice none 0 0 ∧ n = 0) ∨ ∃ (g o cap : Nat) (cur : Array Value), v = .slice (some ⟨g, o, none⟩) n cap ∧ B ≤ g ∧ w.heap[g]? = some (.cells cur e (0, 0)) ∧ n ≤ cap ∧ cap ≤ maxLen ∧ o + cap * size ≤ cur.size ∧ (cur.toList.drop o).take (n * size) = xs)
theorem OffRow.of_owns {w : World} {B e size n : Nat} {v : Value} {xs : List Value} (h : w.ownsRow B e size v n xs) : OffRow w B e size v n xs := by
  refine ⟨h.1, ?_⟩
  rcases h.2 with h1 | ⟨g, cap, cur, h1, h2, h3, h4, h5, h6, h7⟩
  · exact .inl h1
  · exact .inr ⟨g, 0, cap, cur, h1, h2, h3, h4, h5, by omega, by rw [List.drop_zero]; exact h7⟩
theorem OffRow.split {w : World} {B e size n : Nat} {v : Value} {xs : List Value} (h : OffRow w B e size v n xs) : ∃ (a : Option Addr) (cap : Nat), v = .slice a n cap := by
  rcases h.2 with ⟨rfl, rfl⟩ | ⟨g, o, cap, cur, rfl, -⟩
  · exact ⟨none, 0, rfl⟩
  · exact ⟨_, cap, rfl⟩
theorem OffRow.lt {w : World} {B e size n : Nat} {v : Value} {xs : List Value} (h : OffRow w B e size v n xs) : ∀ k, v.ownBlock = some k → B ≤ k ∧ k < w.heap.size := fun k hk => by
  rcases h.2 with ⟨rfl, -⟩ | ⟨g, o, cap, cur, rfl, h2, h3, -⟩
  · simp [Value.ownBlock] at hk
  · simp only [Value.ownBlock, Option.some.injEq] at hk
    subst hk
    exact ⟨h2, heap_lt h3⟩
theorem OffRow.kind {w : World} {B e size n : Nat} {v : Value} {xs : List Value} (h : OffRow w B e size v n xs) : ∀ k, v.ownBlock = some k → ∃ c fz, w.heap[k]? = some (.cells c e fz) := fun k hk => by
  rcases h.2 with ⟨rfl, -⟩ | ⟨g, o, cap, cur, rfl, h2, h3, -⟩
  · simp [Value.ownBlock] at hk
  · simp only [Value.ownBlock, Option.some.injEq] at hk
    subst hk
    exact ⟨cur, _, h3⟩
theorem OffRow.keptB {w w' : World} {B e size n : Nat} {v : Value} {xs : List Value} (h : OffRow w B e size v n xs) (hb : ∀ k, v.ownBlock = some k → w'.heap[k]? = w.heap[k]?) : OffRow w' B e size v n xs := by
  refine ⟨h.1, ?_⟩
  rcases h.2 with h1 | ⟨g, o, cap, cur, rfl, h2, h3, h4⟩
  · exact .inl h1
  · exact .inr ⟨g, o, cap, cur, rfl, h2, (hb g rfl).trans h3, h4⟩
theorem OffRow.below {w w' : World} {B e size n : Nat} {v : Value} {xs : List Value} (h : OffRow w B e size v n xs) (hb : Below w.heap.size w w') : OffRow w' B e size v n xs := h.keptB fun k hk => hb.block k (h.lt k hk).2
theorem OffRow.drew {w : World} {B e size n : Nat} {v : Value} {xs : List Value} (h : OffRow w B e size v n xs) : OffRow w.drew B e size v n xs := h.keptB fun _ _ => rfl
theorem OffRow.drewN {w : World} {B e size n : Nat} {v : Value} {xs : List Value} (h : OffRow w B e size v n xs) (k : Nat) : OffRow (w.drewN k) B e size v n xs := h.keptB fun _ _ => rfl
theorem OffRow.keepsT {Ts : List TypeId} {w w' : World} {B e size n : Nat} {v : Value} {xs : List Value} (h : OffRow w B e size v n xs) (hk : KeepsT Ts w w') (he : e ∉ Ts) : OffRow w' B e size v n xs := h.keptB fun k hv => by
  obtain ⟨c, fz, hc⟩ := h.kind k hv
  rw [hc]
  exact hk.cells hc he
/-- its cells -/
theorem OffRow.cells {w : World} {B e size n cap : Nat} {a : Option Addr} {xs : List Value} (h : OffRow w B e size (.slice a n cap) n xs) (hn : 0 < n) (hs : 0 < size) : ∃ g o, a = some ⟨g, o, none⟩ ∧ B ≤ g ∧ g < w.heap.size ∧ (∀ j, j < n * size → w.cell? ⟨g, o + j, none⟩ = xs[j]?) ∧ ∀ j, w.frozen? ⟨g, j, none⟩ = false := by
  rcases h.2 with ⟨-, rfl⟩ | ⟨g, o, cap', cur, hv, h2, h3, h4, h5, h6, h7⟩
  · omega
  · simp only [Value.slice.injEq] at hv
    obtain ⟨rfl, -, rfl⟩ := hv
    refine ⟨g, o, rfl, h2, heap_lt h3, fun j hj => ?_, fun j => frozen_of_block h3 j⟩
    rw [cell_of_block h3, ← h7, List.getElem?_take_of_lt hj, List.getElem?_drop, Array.getElem?_toList]
theorem OffRow.rows {α : Type} {w : World} {B e k m : Nat} {a : Option Addr} {cap : Nat} (f : α → List Value) (hf : ∀ x, (f x).length = k) (d : α) {L : List α} (h : OffRow w B e k (.slice a m cap) L.length (L.flatMap f)) (hm : m = L.length) (hk : 0 < k) (i : Nat) (hi : i < L.length) :
    ∃ g o, a = some ⟨g, o, none⟩ ∧ B ≤ g ∧ g < w.heap.size ∧ (∀ j, j < k → w.cell? ⟨g, o + i * k + j, none⟩ = (f (L.getD i d))[j]?) ∧ ∀ j, w.frozen? ⟨g, j, none⟩ = false := by
  subst hm
  obtain ⟨g, o, rfl, h1, h2, h3, h4⟩ := h.cells (by omega) hk
  refine ⟨g, o, rfl, h1, h2, fun j hj => ?_, h4⟩
  have hlt : i * k + j < L.length * k := by
    have := Nat.mul_le_mul_right k (show i + 1 ≤ L.length from hi)
    rw [Nat.succ_mul] at this
    omega
  rw [Nat.add_assoc, h3 _ hlt, flat_at f k hf d L i j hi hj]
/-- what lies behind the first k elements -/
theorem OffRow.drop {w : World} {B e size n cap g o : Nat} {xs : List Value} (h : OffRow w B e size (.slice (some ⟨g, o, none⟩) n cap) n xs) (k : Nat) (hk : k ≤ n) : OffRow w B e size (.slice (some ⟨g, o + k * size, none⟩) (n - k) (cap - k)) (n - k) (xs.drop (k * size)) := by
  obtain ⟨hl, h1⟩ := h
  rcases h1 with ⟨hv, -⟩ | ⟨g', o', cap', cur, hv, h2, h3, h4, h5, h6, h7⟩
  · cases hv
  · simp only [Value.slice.injEq, Option.some.injEq, Addr.mk.injEq, and_true, true_and] at hv
    obtain ⟨⟨rfl, rfl⟩, rfl⟩ := hv
    have e1 : (n - k) * size = n * size - k * size := Nat.sub_mul ..
    refine ⟨by rw [List.length_drop, hl, e1], .inr ⟨g, o + k * size, cap - k, cur, rfl, h2, h3, by omega, by omega, ?_, ?_⟩⟩
    · have e2 : (cap - k) * size = cap * size - k * size := Nat.sub_mul ..
      have := Nat.mul_le_mul_right size (show k ≤ cap by omega)
      omega
    · rw [← h7, List.drop_take, List.drop_drop, e1]
theorem OffRow.setCell {w : World} {B e size n cap g o : Nat} {xs : List Value} (h : OffRow w B e size (.slice (some ⟨g, o, none⟩) n cap) n xs) (j : Nat) (u : Value) (hj : j < n * size) : OffRow (w.setCell ⟨g, o + j, none⟩ u) B e size (.slice (some ⟨g, o, none⟩) n cap) n (xs.set j u) := by
  obtain ⟨hl, h1⟩ := h
  rcases h1 with ⟨hv, -⟩ | ⟨g', o', cap', cur, hv, h2, h3, h4, h5, h6, h7⟩
  · cases hv
  · simp only [Value.slice.injEq, Option.some.injEq, Addr.mk.injEq, and_true, true_and] at hv
    obtain ⟨⟨rfl, rfl⟩, rfl⟩ := hv
    refine ⟨by rw [List.length_set, hl], .inr ⟨g, o, cap, _, rfl, h2, block_setCell h3 (o + j) u, h4, h5, by simp; exact h6, ?_⟩⟩
    rw [← h7]
    apply List.ext_getElem?
    intro i
    simp only [Array.toList_setIfInBounds]
    rw [List.getElem?_set]
    by_cases hi : i < n * size
    · rw [List.getElem?_take_of_lt hi, List.getElem?_drop, List.getElem?_set]
      by_cases e1 : j = i
      · subst e1
        rw [if_pos rfl, if_pos rfl]
        have hb : o + j < cur.toList.length := by
          have := Nat.mul_le_mul_right size h4
          rw [Array.length_toList]; omega
        rw [if_pos hb]
        have hb2 : j < ((cur.toList.drop o).take (n * size)).length := by rw [List.length_take, List.length_drop]; omega
        rw [if_pos hb2]
      · rw [if_neg (by omega), if_neg e1, List.getElem?_take_of_lt hi, List.getElem?_drop]
    · have hl2 : ((cur.toList.drop o).take (n * size)).length ≤ n * size := List.length_take_le ..
      rw [List.getElem?_eq_none (Nat.le_trans (List.length_take_le ..) (by omega)), if_neg (by omega), List.getElem?_eq_none (Nat.le_trans hl2 (by omega))]
section
variable {P : Program} (w : World)
theorem run_append_off (base : Nat) (t ty e : TypeId) (i : TypeInfo) (z : Value) (size bytes : Nat) (ht : P.underlying t = some (.slice e)) (hi : P.info? e = some i) (hz : i.zero = some z)
    (hsize : i.size = size) (hby : i.bytes = bytes) (hzs : z.cells.size = size) (hsz : 0 < size)
    (v : Value) (n : Nat) (xs : List Value) (hown : OffRow w base e size v n xs)
    (a : Addr) (m c : Nat) (hm : 0 < m) (news : List Value) (hl : news.length = m * size) (hnews : ∀ j u, news[j]? = some u → w.cell? (a.add j) = some u) (h1 : ∀ u ∈ news, u.oneCell' = true)
    (h63 : n + m ≤ maxLen) (hbytes : (n + m) * bytes ≤ 140737488355328) (hbase : base ≤ w.heap.size) :
    ∃ v' w', (Builtin.append_ #[t, t] ty #[v, .slice (some a) m c]).run P w = .ok v' w' ∧ OffRow w' base e size v' (n + m) (xs ++ news) ∧ w.grownBy w' v.ownBlock ∧
      (∃ g o c', v' = .slice (some ⟨g, o, none⟩) (n + m) c' ∧ (v.ownBlock = some g ∨ w.heap.size ≤ g)) := by
  rcases hown.2 with ⟨rfl, rfl⟩ | ⟨g, o, cap, cur, rfl, hbg, hg, hnc, hcm, hcs, htake⟩
  · have hx : xs = [] := List.eq_nil_of_length_eq_zero (by rw [hown.1]; simp)
    subst hx
    obtain ⟨v', w', r1, r2, r3, g, c', r4, r5⟩ := run_append_own2 (P := P) w base t ty e i z size bytes ht hi hz hsize hby hzs hsz (.slice none 0 0) 0 [] (World.ownsRow_nil _ _ _ _) a m c hm news hl hnews h1 h63 hbytes hbase
    exact ⟨v', w', r1, .of_owns r2, r3, g, 0, c', r4, r5⟩
  · by_cases hroom : n + m ≤ cap
    · have hfit : o + (n * i.size + news.length) ≤ cur.size := by
        rw [hl, hsize, ← Nat.add_mul]
        have := Nat.mul_le_mul_right size hroom
        omega
      have hr := run_append_room_cells (P := P) w t ty e i ht hi g o n cap a m c news (by rw [hl, hsize]) hnews h1 hroom (fun j hj => by
        rw [cell_of_block hg, Array.getElem?_eq_getElem (by omega)]; rfl) (fun j _ => frozen_of_block hg _)
      have hcell := setCells_block (b := g) (fz := (0, 0)) news (o + n * i.size) w cur hg
      refine ⟨_, _, hr, ⟨by rw [List.length_append, hown.1, hl, Nat.add_mul], .inr ⟨g, o, cap, _, rfl, hbg, hcell, hroom, hcm, by rw [setL_size]; exact hcs, ?_⟩⟩, setCells_other news _ w, g, o, cap, rfl, .inl rfl⟩
      apply List.ext_getElem?
      intro j
      by_cases hj : j < (n + m) * size
      · rw [List.getElem?_take_of_lt hj, List.getElem?_drop, Array.getElem?_toList, setL_at _ _ _ _ (by omega)]
        rw [hsize] at *
        rw [Nat.add_mul] at hj
        by_cases hj2 : j < n * size
        · rw [if_neg (by omega), List.getElem?_append_left (by rw [hown.1]; exact hj2), ← htake, List.getElem?_take_of_lt hj2, List.getElem?_drop, Array.getElem?_toList]
        · rw [if_pos (by omega), List.getElem?_append_right (by rw [hown.1]; omega), hown.1]
          congr 1
          omega
      · rw [List.getElem?_eq_none (Nat.le_trans (List.length_take_le ..) (by omega)), List.getElem?_eq_none (by rw [List.length_append, hown.1, hl, ← Nat.add_mul]; omega)]
    · have holds : ∀ j u, xs[j]? = some u → w.cell? ((⟨g, o, none⟩ : Addr).add j) = some u := fun j u hu => by
        have hj : j < n * size := by rw [← hown.1]; exact (List.getElem?_eq_some_iff.1 hu).1
        rw [Go.WideShapes.add_plain, cell_of_block hg, ← hu, ← htake, List.getElem?_take_of_lt hj, List.getElem?_drop, Array.getElem?_toList]
      obtain ⟨v', w', r1, r2, r3⟩ := run_append_arg_grows (P := P) w t ty e i z size bytes ht hi hz hsize hby hzs hsz ⟨g, o, none⟩ n cap xs hown.1 holds a m c news hl hnews (by omega) h63 hbytes
      have hsz2 : w.heap.size ≤ w'.heap.size := r3.size
      rcases r2.2 with ⟨-, h0⟩ | ⟨g', cap', cur', rfl, hg', hh, r4⟩
      · omega
      · refine ⟨_, w', r1, ⟨r2.1, .inr ⟨g', 0, cap', cur', rfl, by omega, hh, r4.1, r4.2.1, by have := r4.2.2.1; omega, by rw [List.drop_zero]; exact r4.2.2.2⟩⟩, ⟨r3.os, r3.tape, r3.output, r3.size, fun k hk _ => r3.block k hk (by simp)⟩, g', 0, cap', rfl, .inr hg'⟩
theorem wp_append_off {o : Oper} {a : Act} {K : Act → World → Prop} {Q : Exit → Act → World → Prop} (s x : Operand) (t : TypeId)
    (ho : o.op = .call { callee := .builtin .append, args := #[s, x], argTypes := #[t, t] })
    (base : Nat) (e : TypeId) (i : TypeInfo) (z : Value) (size bytes : Nat) (ht : P.underlying t = some (.slice e)) (hi : P.info? e = some i) (hz : i.zero = some z)
    (hsize : i.size = size) (hby : i.bytes = bytes) (hzs : z.cells.size = size) (hsz : 0 < size)
    (v : Value) (n : Nat) (xs : List Value) (hs : a.eval s = v) (hown : OffRow w base e size v n xs)
    (ad : Addr) (m c : Nat) (hm : 0 < m) (news : List Value) (hx : a.eval x = .slice (some ad) m c) (hl : news.length = m * size) (hnews : ∀ j u, news[j]? = some u → w.cell? (ad.add j) = some u) (h1 : ∀ u ∈ news, u.oneCell' = true)
    (h63 : n + m ≤ maxLen) (hbytes : (n + m) * bytes ≤ 140737488355328) (hbase : base ≤ w.heap.size)
    (h : ∀ g o' c' w', OffRow w' base e size (.slice (some ⟨g, o', none⟩) (n + m) c') (n + m) (xs ++ news) → w.grownBy w' v.ownBlock → (v.ownBlock = some g ∨ w.heap.size ≤ g) → K (a.put o.dst (.slice (some ⟨g, o', none⟩) (n + m) c')) w') : o.wp P a w K Q := by
  obtain ⟨v', w', hr, h2, h3, g, o', c', rfl, h4⟩ := run_append_off (P := P) w base t o.type e i z size bytes ht hi hz hsize hby hzs hsz v n xs hown ad m c hm news hl hnews h1 h63 hbytes hbase
  unfold Oper.wp execOp
  simp only [ho, resolve, invoke, builtin, Sem.run_bind, Sem.run_pure, Result.andThen_ok, List.map_toArray, List.map_cons, List.map_nil, hs, hx, hr]
  exact h g o' c' w' h2 h3 h4
end
end Go.Proofs.Ytbnbfnlfgmlcgaa
