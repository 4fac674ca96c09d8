/-
  Layer 12, the program's calls, second part: owners, and what turns a map.
-/
import Derived.Test.YtpgogdnjddeagaaWhere
--import Derived.Test.Zdbg
namespace Go.Proofs.Ytpgogdnjddeagaa
set_option linter.unusedSimpArgs false
set_option linter.unusedVariables false
open Go.RowKit Go.Maps W

theorem _root_.Go.RowKit.Below.drewN {B : Nat} {a b : World} (h : Below B a b) (n : Nat) : Below B a (b.drewN n) := ⟨h.os, h.tape, h.output, h.size, h.block⟩
theorem zero_int (w : World) : (zeroValue 3).run Try.prog w = .ok (.int .i64 0) w := by kernel_rfl
/-- which logical page is at a place, as the program tells it -/
def ownZ (S : Spots) (b p : Int) : Int := match owner S (b, p) with | some i => (i : Int) | none => -1
theorem owner_any {w : World} {p q o l : Nat} {pg : Int} {nb : Nat} {S : Spots} (h : WhereAt w p q o l pg nb S) (b n : Int) (hb : I64 b) (hn : I64 n) :
    Calls Try.prog 37 #[.pointer (some ⟨p, 0, none⟩), .agg #[.int .i64 b, .int .i64 n]] w fun e w' => e = .returned (.int .i64 (ownZ S b n)) ∧ Below w.heap.size w w' := by
  obtain ⟨-, -, c2, -⟩ := h.cells
  obtain ⟨f, hm, hf⟩ := h.own
  have hlt := h.lt
  have hpl := hlt.1
  have hfb := hf b n hb hn
  have HK := hide (fun W (hW : W.heap[o]? = w.heap[o]?) => (hm.kept hW).look_ok KeyedP Try.underlying72 (zero_int W) (key_place hb hn) (isKey_pk b n))
  cases ho : owner S (b, n) with
  | none =>
    have HZ := hide (show -1 = ownZ S b n by unfold ownZ; rw [ho])
    rw [ho] at hfb
    rw [show f (pk b n) = none from hfb] at HK
    have hlk : ∀ k, (Instr.lookup 72 (.map (some o)) (.agg #[.int .i64 b, .int .i64 n]) true).run Try.prog ((w.alloc (.cells #[.int .i64 b, .int .i64 n] 60)).drewN k) = .ok (.tuple #[.int .i64 0, .bool false]) ((w.alloc (.cells #[.int .i64 b, .int .i64 n] 60)).drewN k) := fun k => HK.out _ (heap_old w _ o hlt.2.2.1)
    clear h hm hf hfb HK ho hlt
    go_enter Try.func37, Try.ntmps37
    go_wp2
    go_quiet (fail)
    go_wp2
    go_ret
    exact ⟨ret_int HZ.out, ((Below.refl _ _).alloc (Nat.le_refl _) _).drewN _⟩
  | some i =>
    have HZ := hide (show (i : Int) = ownZ S b n by unfold ownZ; rw [ho])
    rw [ho] at hfb
    rw [show f (pk b n) = some (.int .i64 i) from hfb] at HK
    have hlk : ∀ k, (Instr.lookup 72 (.map (some o)) (.agg #[.int .i64 b, .int .i64 n]) true).run Try.prog ((w.alloc (.cells #[.int .i64 b, .int .i64 n] 60)).drewN k) = .ok (.tuple #[.int .i64 i, .bool true]) ((w.alloc (.cells #[.int .i64 b, .int .i64 n] 60)).drewN k) := fun k => HK.out _ (heap_old w _ o hlt.2.2.1)
    clear h hm hf hfb HK ho hlt
    go_enter Try.func37, Try.ntmps37
    go_wp2
    go_quiet (fail)
    go_wp2
    go_ret
    exact ⟨ret_int HZ.out, ((Below.refl _ _).alloc (Nat.le_refl _) _).drewN _⟩
theorem owner_nil (b n : Int) (w : World) : Calls Try.prog 37 #[.pointer none, .agg #[.int .i64 b, .int .i64 n]] w fun e w' => e = .returned (.int .i64 (-1)) ∧ Below w.heap.size w w' := by
  go_enter Try.func37, Try.ntmps37
  go_wp2
  go_ret
  exact ⟨rfl, (Below.refl _ _).alloc (Nat.le_refl _) _⟩
theorem leave_none {w : World} {p q o l : Nat} {pg : Int} {nb : Nat} {S : Spots} (h : WhereAt w p q o l pg nb S) (i : Nat) (hi : i < S.length) (hs : S.getD i none = none) :
    Calls Try.prog 38 #[.pointer (some ⟨p, 0, none⟩), .int .i64 (i : Int)] w fun e w' => e = .returned (.tuple #[]) ∧ Below w.heap.size w w' := by
  obtain ⟨-, c1, -, -⟩ := h.cells
  obtain ⟨d0, -⟩ := h.spot i hi 0 (by omega)
  obtain ⟨d1, -⟩ := h.spot i hi 1 (by omega)
  obtain ⟨d2, -⟩ := h.spot i hi 2 (by omega)
  obtain ⟨hpl, hql, -, -⟩ := h.lt
  rw [hs] at d0 d1 d2
  simp only [spotC, List.getElem?_cons_zero, List.getElem?_cons_succ, Nat.add_zero] at d0 d1 d2
  clear h hs
  go_enter Try.func38, Try.ntmps38
  go_wp2
  exact bodyPost_ret (v := .tuple #[]) (by simp [results, Try.results38, go_sem]) rfl ⟨rfl, (Below.refl _ _).alloc (Nat.le_refl _) _⟩
theorem setCell_far {w : World} {b o l j : Nat} {u v : Value} (h : w.cell? ⟨b, o, none⟩ = some u) (hn : b ≠ l) : (w.setCell ⟨l, j, none⟩ v).cell? ⟨b, o, none⟩ = some u := by
  rw [← h]; simp only [World.cell?, block_setCell_other (Ne.symm hn)]
theorem getD_some {S : Spots} {i : Nat} {x : Int × Int} (h : S.getD i none = some x) : S[i]? = some (some x) := by
  simp only [List.getD] at h
  cases e : S[i]? with
  | none => rw [e] at h; cases h
  | some y => rw [e] at h; simp at h; rw [h]
theorem live_pos (S : Spots) (i : Nat) (b n : Int) (h : S.getD i none = some (b, n)) : 1 ≤ liveN S b := by
  have h2 := List.mem_of_getElem? (getD_some h)
  exact List.countP_pos_iff.2 ⟨_, h2, by simp⟩
/-- the parts of a map, each by itself -/
structure WParts (w : World) (p q o l : Nat) (pg : Int) (nb : Nat) (S : Spots) (L : List Int) (c : Nat) (f : Lit → Option Value) : Prop where
  head : w.heap[p]? = some (.cells #[.int .i64 pg, .slice (some ⟨q, 0, none⟩) S.length S.length, .map (some o), .slice (some ⟨l, 0, none⟩) nb nb] 74 (0, 0))
  row : w.heap[q]? = some (.cells (S.flatMap spotC).toArray 81 (0, 0))
  live : w.heap[l]? = some (.cells (L.map (Value.int .i64)).toArray 3 (0, 0))
  own : MapIs w Try.prog 60 o c c f
  apart : [p, q, o, l].Nodup
def liveZ (S : Spots) (nb : Nat) : List Int := (List.range nb).map fun (b : Nat) => ((liveN S (b : Int) : Nat) : Int)
theorem liveZ_map (S : Spots) (nb : Nat) : (liveZ S nb).map (Value.int .i64) = liveL S nb := by simp [liveZ, liveL, Function.comp_def]
theorem liveZ_len (S : Spots) (nb : Nat) : (liveZ S nb).length = nb := by simp [liveZ]
theorem liveZ_at (S : Spots) (nb b : Nat) (h : b < nb) : (liveZ S nb).getD b 0 = (liveN S (b : Int) : Nat) := by simp [liveZ, List.getD, h]
theorem WhereAt.parts {w : World} {p q o l : Nat} {pg : Int} {nb : Nat} {S : Spots} (h : WhereAt w p q o l pg nb S) : ∃ f, WParts w p q o l pg nb S (liveZ S nb) (total S) f ∧ ∀ b p, I64 b → I64 p → f (pk b p) = (owner S (b, p)).map (fun i : Nat => Value.int .i64 (i : Int)) := by
  obtain ⟨f, h1, h2⟩ := h.own
  exact ⟨f, ⟨h.head, h.row, by rw [liveZ_map]; exact h.live, h1, h.apart⟩, h2⟩
section
variable {w : World} {p q o l : Nat} {pg : Int} {nb : Nat} {S : Spots} {L : List Int} {c : Nat} {f : Lit → Option Value}
theorem WParts.lt (h : WParts w p q o l pg nb S L c f) : p < w.heap.size ∧ q < w.heap.size ∧ o < w.heap.size ∧ l < w.heap.size := ⟨heap_lt h.head, heap_lt h.row, h.own.lt, heap_lt h.live⟩
theorem WParts.kept {w' : World} (h : WParts w p q o l pg nb S L c f) (hp : w'.heap[p]? = w.heap[p]?) (hq : w'.heap[q]? = w.heap[q]?) (ho : w'.heap[o]? = w.heap[o]?) (hl : w'.heap[l]? = w.heap[l]?) : WParts w' p q o l pg nb S L c f :=
  ⟨hp.trans h.head, hq.trans h.row, hl.trans h.live, h.own.kept ho, h.apart⟩
theorem WParts.drew (h : WParts w p q o l pg nb S L c f) : WParts w.drew p q o l pg nb S L c f := h.kept rfl rfl rfl rfl
theorem WParts.below {w' : World} (h : WParts w p q o l pg nb S L c f) (hb : Below w.heap.size w w') : WParts w' p q o l pg nb S L c f :=
  let ⟨a, b, c, d⟩ := h.lt; h.kept (hb.block _ a) (hb.block _ b) (hb.block _ c) (hb.block _ d)
theorem WParts.ne (h : WParts w p q o l pg nb S L c f) : p ≠ q ∧ p ≠ o ∧ p ≠ l ∧ q ≠ o ∧ q ≠ l ∧ o ≠ l := by
  have := h.apart
  simp only [List.nodup_cons, List.mem_cons, List.not_mem_nil, or_false, not_or, List.nodup_nil, and_true, not_false_eq_true] at this
  exact ⟨this.1.1, this.1.2.1, this.1.2.2, this.2.1.1, this.2.1.2, this.2.2⟩
theorem WParts.mapped {w' : World} {c' : Nat} {f' : Lit → Option Value} (h : WParts w p q o l pg nb S L c f) (hg : Only o w w') (hm : MapIs w' Try.prog 60 o c' c' f') : WParts w' p q o l pg nb S L c' f' :=
  let ⟨a, b, cc, d⟩ := h.lt; let ⟨n1, n2, n3, n4, n5, n6⟩ := h.ne
  ⟨(hg.block _ a n2).trans h.head, (hg.block _ b n4).trans h.row, (hg.block _ d (Ne.symm n6)).trans h.live, hm, h.apart⟩
theorem WParts.setLive (h : WParts w p q o l pg nb S L c f) (b : Nat) (v : Int) : WParts (w.setCell ⟨l, b, none⟩ (.int .i64 v)) p q o l pg nb S (L.set b v) c f :=
  let ⟨n1, n2, n3, n4, n5, n6⟩ := h.ne
  ⟨by rw [block_setCell_other (Ne.symm n3)]; exact h.head, by rw [block_setCell_other (Ne.symm n5)]; exact h.row, by rw [block_setCell h.live]; simp, h.own.kept (block_setCell_other (Ne.symm n6) _ _), h.apart⟩
theorem WParts.cells (h : WParts w p q o l pg nb S L c f) :
    w.cell? ⟨p, 0, none⟩ = some (.int .i64 pg) ∧ w.cell? ⟨p, 1, none⟩ = some (.slice (some ⟨q, 0, none⟩) S.length S.length) ∧ w.cell? ⟨p, 2, none⟩ = some (.map (some o)) ∧ w.cell? ⟨p, 3, none⟩ = some (.slice (some ⟨l, 0, none⟩) nb nb) :=
  ⟨by rw [cell_of_block h.head]; rfl, by rw [cell_of_block h.head]; rfl, by rw [cell_of_block h.head]; rfl, by rw [cell_of_block h.head]; rfl⟩
theorem WParts.spot (h : WParts w p q o l pg nb S L c f) (i : Nat) (hi : i < S.length) (j : Nat) (hj : j < 3) :
    w.cell? ⟨q, i * 3 + j, none⟩ = (spotC (S.getD i none))[j]? ∧ w.frozen? ⟨q, i * 3 + j, none⟩ = false :=
  ⟨by rw [cell_of_block h.row, ← flat_at spotC 3 spotC_len none S i j hi hj]; simp, frozen_of_block h.row _⟩
theorem WParts.lv (h : WParts w p q o l pg nb S L c f) (b : Nat) (hb : b < L.length) :
    w.cell? ⟨l, b, none⟩ = some (.int .i64 (L.getD b 0)) ∧ w.frozen? ⟨l, b, none⟩ = false :=
  ⟨by rw [cell_of_block h.live]; simp [List.getD, hb], frozen_of_block h.live _⟩
end
theorem flat_set3 : ∀ (S : Spots) (i : Nat) (x : Option (Int × Int)) (v0 v1 v2 : Value), i < S.length → spotC x = [v0, v1, v2] →
    (((S.flatMap spotC).set (i * 3) v0).set (i * 3 + 1) v1).set (i * 3 + 2) v2 = (S.set i x).flatMap spotC
  | [], i, x, v0, v1, v2, h, _ => by simp at h
  | a :: S, 0, x, v0, v1, v2, _, hx => by
    have ha : ∃ a0 a1 a2, spotC a = [a0, a1, a2] := by unfold spotC; split <;> exact ⟨_, _, _, rfl⟩
    obtain ⟨a0, a1, a2, ha⟩ := ha
    simp [List.flatMap_cons, ha, hx]
  | a :: S, i + 1, x, v0, v1, v2, h, hx => by
    have ha : ∃ a0 a1 a2, spotC a = [a0, a1, a2] := by unfold spotC; split <;> exact ⟨_, _, _, rfl⟩
    obtain ⟨a0, a1, a2, ha⟩ := ha
    have ih := flat_set3 S i x v0 v1 v2 (by simpa using h) hx
    rw [show (i + 1) * 3 = i * 3 + 1 + 1 + 1 by omega]
    simp only [List.flatMap_cons, ha, List.set_cons_succ, List.cons_append, List.nil_append]
    rw [ih]
theorem WParts.setSpot {w : World} {p q o l : Nat} {pg : Int} {nb : Nat} {S : Spots} {L : List Int} {c : Nat} {f : Lit → Option Value} (h : WParts w p q o l pg nb S L c f) (i : Nat) (hi : i < S.length) (x : Option (Int × Int)) (v0 v1 v2 : Value) (hx : spotC x = [v0, v1, v2]) :
    WParts (((w.setCell ⟨q, i * 3, none⟩ v0).setCell ⟨q, i * 3 + 1, none⟩ v1).setCell ⟨q, i * 3 + 2, none⟩ v2) p q o l pg nb (S.set i x) L c f := by
  obtain ⟨n1, n2, n3, n4, n5, n6⟩ := h.ne
  have far : ∀ k, q ≠ k → (((w.setCell ⟨q, i * 3, none⟩ v0).setCell ⟨q, i * 3 + 1, none⟩ v1).setCell ⟨q, i * 3 + 2, none⟩ v2).heap[k]? = w.heap[k]? := fun k hk => by rw [block_setCell_other hk, block_setCell_other hk, block_setCell_other hk]
  refine ⟨by rw [far p (Ne.symm n1), List.length_set]; exact h.head, ?_, by rw [far l n5]; exact h.live, h.own.kept (far o n4), h.apart⟩
  rw [block_setCell (block_setCell (block_setCell h.row _ _) _ _) _ _, ← flat_set3 S i x v0 v1 v2 hi hx]
  simp
theorem WhereAt.drew {w : World} {p q o l : Nat} {pg : Int} {nb : Nat} {S : Spots} (h : WhereAt w p q o l pg nb S) : WhereAt w.drew p q o l pg nb S := h.kept rfl rfl rfl rfl
theorem WhereAt.drewN {w : World} {p q o l : Nat} {pg : Int} {nb : Nat} {S : Spots} (h : WhereAt w p q o l pg nb S) (k : Nat) : WhereAt (w.drewN k) p q o l pg nb S := h.kept rfl rfl rfl rfl
theorem WParts.whole {w : World} {p q o l : Nat} {pg : Int} {nb : Nat} {S : Spots} {L : List Int} {c : Nat} {f : Lit → Option Value} (h : WParts w p q o l pg nb S L c f) (hL : L = liveZ S nb) (hc : c = total S)
    (hf : ∀ b p, I64 b → I64 p → f (pk b p) = (owner S (b, p)).map (fun i : Nat => Value.int .i64 (i : Int))) (hi : Inj S) (ok : ∀ (i : Nat) b p, S[i]? = some (some (b, p)) → 0 ≤ b ∧ b < nb ∧ 0 ≤ p ∧ p < pg) (big : pg ≤ 64 ∧ nb ≤ 256 ∧ S.length ≤ 4096) : WhereAt w p q o l pg nb S := by
  subst hL hc
  exact ⟨h.head, h.row, by rw [← liveZ_map]; exact h.live, ⟨f, h.own, hf⟩, hi, ok, big, h.apart⟩
theorem liveN_set {S : Spots} {i : Nat} (hl : i < S.length) (v : Option (Int × Int)) (b : Int) : liveN (S.set i v) b + (if (S.getD i none).any (·.1 == b) = true then 1 else 0) = liveN S b + (if v.any (·.1 == b) = true then 1 else 0) := countP_set hl v
theorem liveZ_drop {S : Spots} {i b n nb : Nat} {v : Int} (hs : S.getD i none = some ((b : Int), (n : Int))) (hb : b < nb) (hv : v = ((liveN S (b : Int) : Nat) : Int) - 1) : (liveZ S nb).set b v = liveZ (S.set i none) nb := by
  have hl : i < S.length := (List.getElem?_eq_some_iff.1 (getD_some hs)).1
  apply List.ext_getElem (by simp [liveZ])
  intro j h1 h2
  have hj : j < nb := by simpa [liveZ] using h2
  have := liveN_set hl none (j : Int)
  rw [hs] at this
  rw [List.getElem_set]
  simp only [liveZ, List.getElem_map, List.getElem_range]
  by_cases e : b = j
  · subst e; rw [if_pos rfl, hv]; simp at this; omega
  · rw [if_neg e]
    simp [show ¬ ((b : Int) = (j : Int)) by omega] at this
    omega
theorem total_drop {S : Spots} {i : Nat} {x : Int × Int} {c : Option Value} (hs : S.getD i none = some x) (hl : i < S.length) (hc : c.isSome = true) : (total S - if c.isSome = true then 1 else 0) = total (S.set i none) := by
  have := countP_set (p := Option.isSome) hl none
  rw [hs] at this
  simp at this
  rw [if_pos hc]
  unfold total
  omega
theorem owners_drop {S : Spots} {i : Nat} {b n : Int} {f : Lit → Option Value} (hi : Inj S) (hs : S.getD i none = some (b, n)) (hbn : I64 b ∧ I64 n) (hf : ∀ b p, I64 b → I64 p → f (pk b p) = (owner S (b, p)).map (fun i : Nat => Value.int .i64 (i : Int))) :
    ∀ b' p', I64 b' → I64 p' → (fun l : Lit => if l.sameKey (pk b n) = true then none else f l) (pk b' p') = (owner (S.set i none) (b', p')).map (fun i : Nat => Value.int .i64 (i : Int)) := by
  intro b' p' hb' hp'
  rw [owner_drop hi]
  dsimp only
  have hs' := getD_some hs
  by_cases e : pk b' p' = pk b n
  · obtain ⟨rfl, rfl⟩ := pk_inj hb' hp' hbn.1 hbn.2 e
    rw [if_pos (WideAt.sameKey_self (isKey_pk _ _)), if_pos hs']
    rfl
  · rw [if_neg (fun h => e (WideAt.sameKey_eq h)), if_neg ?_, hf b' p' hb' hp']
    intro h
    rw [hs'] at h
    simp only [Option.some.injEq, Prod.mk.injEq] at h
    exact e (by rw [h.1, h.2])
theorem ok_drop {S : Spots} {nb : Nat} {pg : Int} (ok : ∀ (i : Nat) b p, S[i]? = some (some (b, p)) → 0 ≤ b ∧ b < nb ∧ 0 ≤ p ∧ p < pg) (j : Nat) : ∀ (i : Nat) b p, (S.set j none)[i]? = some (some (b, p)) → 0 ≤ b ∧ b < nb ∧ 0 ≤ p ∧ p < pg := by
  intro i b p h
  rw [List.getElem?_set] at h
  split at h
  · split at h <;> cases h
  · exact ok i b p h
theorem leave_some {w : World} {p q o l : Nat} {pg : Int} {nb : Nat} {S : Spots} (h : WhereAt w p q o l pg nb S) (i : Nat) (hi : i < S.length) (b n : Nat) (hs : S.getD i none = some ((b : Int), (n : Int))) (hbn : b < nb) (hin : I64 b ∧ I64 n) :
    Calls Try.prog 38 #[.pointer (some ⟨p, 0, none⟩), .int .i64 (i : Int)] w fun e w' => e = .returned (.tuple #[]) ∧ WhereAt w' p q o l pg nb (S.set i none) ∧ OnlyL [q, o, l] w w' := by
  obtain ⟨-, c1, c2, c3⟩ := h.cells
  obtain ⟨d0, f0⟩ := h.spot i hi 0 (by omega)
  obtain ⟨d1, f1⟩ := h.spot i hi 1 (by omega)
  obtain ⟨d2, f2⟩ := h.spot i hi 2 (by omega)
  obtain ⟨hpl, hql, hol, hll⟩ := h.lt
  obtain ⟨e0, g0⟩ := h.lv b hbn
  rw [hs] at d0 d1 d2
  simp only [spotC, List.getElem?_cons_zero, List.getElem?_cons_succ, Nat.add_zero] at d0 d1 d2 f0
  have HH := hide (h.below ((Below.refl _ _).alloc (Nat.le_refl _) (.cells #[.int .i64 (b : Int), .int .i64 (n : Int), .bool true] 81)))
  have HI := hide (show I64 b ∧ I64 n from hin)
  have HS := hide hs
  have HL := hide (live_pos S i b n hs)
  have HL2 := hide (Nat.le_trans (live_le S b) (Nat.le_trans (total_le S) h.big.2.2))
  have HOB := hide hol
  have HOW := hide ((OnlyL.refl [q, o, l] w).alloc (.cells #[.int .i64 (b : Int), .int .i64 (n : Int), .bool true] 81))
  have HB := hide ((Below.refl w.heap.size w).alloc (Nat.le_refl _) (.cells #[.int .i64 (b : Int), .int .i64 (n : Int), .bool true] 81))
  have HN := hide (heap_new w (.cells #[.int .i64 (b : Int), .int .i64 (n : Int), .bool true] 81))
  go_enter Try.func38, Try.ntmps38
  go_wp2
  clear h hs hin c1 c2 c3 d0 d1 d2 f0 f1 f2 e0 g0 hpl hql hol hll
  generalize w.alloc (.cells #[.int .i64 (b : Int), .int .i64 (n : Int), .bool true] 81) = W at *
  generalize w.heap.size = B at *
  obtain ⟨f, hw, hf⟩ := HH.out.parts
  have HF := hide hf
  have HW := hide hw
  obtain ⟨-, c1, c2, c3⟩ := hw.cells
  have n0 : W.cell? ⟨B, 0, none⟩ = some (.int .i64 (b : Int)) := by rw [cell_of_block HN.out]; rfl
  have n1 : W.cell? ⟨B, 1, none⟩ = some (.int .i64 (n : Int)) := by rw [cell_of_block HN.out]; rfl
  clear hf hw
  go_still_tail 6, (by kernel_rfl)
  change wpList _ _ _ _ _ W.drew
  refine wpList_mapDrop _ rfl _ _ 72 60 rfl 3 KeyedP Try.underlying72 o _ _ f rfl HW.out.drew.own _ (pk b n) rfl (key_place HI.out.1 HI.out.2) (isKey_pk _ _) ?_
  intro w2 hm2 hg2
  have ho2 := only_of_grown hg2
  have HW2 := hide (HW.out.drew.mapped ho2 hm2.tight)
  have HO2 := hide ho2
  have HN2 := hide ((ho2.block B (heap_lt HN.out) (by have := HOB.out; omega)).trans HN.out)
  clear hm2 hg2 ho2 c1 c2 c3 n0 n1
  go_wp2
  obtain ⟨-, c1, c2, c3⟩ := HW2.out.cells
  obtain ⟨e0, g0⟩ := HW2.out.lv b (by rw [liveZ_len]; exact hbn)
  have n0 : w2.cell? ⟨B, 0, none⟩ = some (.int .i64 (b : Int)) := by rw [cell_of_block HN2.out]; rfl
  rw [liveZ_at _ _ _ hbn] at e0
  obtain ⟨d0, f0⟩ := HW2.out.spot i hi 0 (by omega)
  obtain ⟨d1, f1⟩ := HW2.out.spot i hi 1 (by omega)
  obtain ⟨d2, f2⟩ := HW2.out.spot i hi 2 (by omega)
  rw [HS.out] at d0 d1 d2
  simp only [spotC, List.getElem?_cons_zero, List.getElem?_cons_succ, Nat.add_zero] at d0 d1 d2 f0
  have hne := HW2.out.ne
  have C1 := fun v => setCell_far (l := l) (j := b) (v := v) c1 hne.2.2.1
  have D0 := fun v => setCell_far (l := l) (j := b) (v := v) d0 hne.2.2.2.2.1
  have D1 := fun v => setCell_far (l := l) (j := b) (v := v) d1 hne.2.2.2.2.1
  have D2 := fun v => setCell_far (l := l) (j := b) (v := v) d2 hne.2.2.2.2.1
  have HX := hide (HW2.out.setLive b ((liveN S (b : Int) : Nat) - 1 : Int))
  have hl1 : (1 : Int) ≤ ((liveN S (b : Int) : Nat) : Int) := by have := HL.out; omega
  have hl2 : ((liveN S (b : Int) : Nat) : Int) ≤ 4096 := by have := HL2.out; omega
  have HSM := hide (show (f (pk b n)).isSome = true by rw [HF.out b n HI.out.1 HI.out.2, owner_is HH.out.inj (getD_some HS.out)]; rfl)
  generalize hx : ((liveN S (b : Int) : Nat) : Int) = x at *
  have HXL := hide hx
  clear hx hne d0 d1 d2
  go_still_tail 11, (by kernel_rfl)
  change wpList _ _ _ _ _ w2.drew
  go_wp2_with fail
  go_end0
  refine ⟨rfl, (WParts.whole (HX.out.setSpot i hi none _ _ _ rfl) (liveZ_drop HS.out hbn (by rw [HXL.out])) (total_drop HS.out hi HSM.out) (owners_drop HH.out.inj HS.out HI.out HF.out) (HH.out.inj.drop i) (ok_drop HH.out.ok i) (by rw [List.length_set]; exact HH.out.big)).drew, ?_⟩
  exact (((((HOW.out.trans (OnlyL.of_only (Only.refl o W).drew (by simp))).trans (OnlyL.of_only HO2.out (by simp))).trans (OnlyL.setCell (by simp) _ _)).trans (OnlyL.setCell (by simp) _ _)).trans (OnlyL.setCell (by simp) _ _)).trans ((OnlyL.setCell (by simp) _ _).drew)
theorem leave_any {w : World} {p q o l : Nat} {pg : Int} {nb : Nat} {S : Spots} (h : WhereAt w p q o l pg nb S) (i : Nat) (hi : i < S.length) :
    Calls Try.prog 38 #[.pointer (some ⟨p, 0, none⟩), .int .i64 (i : Int)] w fun e w' => e = .returned (.tuple #[]) ∧ WhereAt w' p q o l pg nb (S.set i none) ∧ OnlyL [q, o, l] w w' := by
  cases hs : S.getD i none with
  | none =>
    refine (leave_none h i hi hs).mono ?_
    rintro e w' ⟨rfl, hb⟩
    refine ⟨rfl, ?_, .of_below hb⟩
    have : S.set i none = S := by
      apply List.ext_getElem?
      intro j
      rw [List.getElem?_set]
      split
      · rename_i e; subst e; rw [List.getElem?_eq_getElem hi]; simp only [List.getD, List.getElem?_eq_getElem hi, Option.getD_some] at hs; rw [hs]
      · rfl
    rw [this]
    exact h.below hb
  | some x =>
    obtain ⟨b, n⟩ := x
    obtain ⟨b0, b1, n0, n1⟩ := h.ok i b n (getD_some hs)
    have := h.big
    obtain ⟨b', rfl⟩ := Int.eq_ofNat_of_zero_le b0
    obtain ⟨n', rfl⟩ := Int.eq_ofNat_of_zero_le n0
    exact leave_some h i hi b' n' hs (by omega) ⟨⟨by omega, by omega⟩, ⟨by omega, by omega⟩⟩
end Go.Proofs.Ytpgogdnjddeagaa
