/-
  Layer 23: books in memory: New, Balance, set.
-/
import Derived.Test.YtjnfmgbbhiklaaaMBooks2
import Derived.Test.YtjnfmgbbhiklaaaKitM
import Derived.Test.YtjnfmgbbhiklaaaKitN
--import Derived.Test.Zdbg
namespace Go.Proofs.Ytjnfmgbbhiklaaa
set_option linter.unusedSimpArgs false
set_option linter.unusedVariables false
open Go.RowKit Go.WideShapes Go.ChangeShapes Go.ChangeAt Go.Deep
theorem wf_in {a : Int} (h : inR a) : (Lit.int .i64 a).wf = true := by
  obtain ⟨h2, h3⟩ := h
  simp [Lit.wf, IntKind.min, IntKind.max, IntKind.signed, IntKind.bits]
  exact ⟨h2, h3⟩
theorem Keyed_int : Go.Maps.Keyed Try.prog 3 := Go.Maps.int_keyed Try.underlying3
theorem key_int {a : Int} (h : inR a) : keyOf Try.prog 3 (.int .i64 a) = some (.int .i64 a) := Go.Maps.keyOf_int_mk Try.underlying3 (wf_in h)
def hasB (M : List LnM) (a : Int) : Bool := M.any fun x => decide (x.c = a)
theorem hasB_no {M : List LnM} {a : Int} : hasB M a = false ↔ ∀ x ∈ M, ¬ x.c = a := by
  unfold hasB
  rw [List.any_eq_false]
  simp
theorem hasB_get {M : List LnM} (hz : NzB M) (a : Int) : hasB M a = false ↔ getB M a = 0 :=
  ⟨fun h => getB_out (hasB_no.1 h), fun h => hasB_no.2 (getB_no hz h)⟩
theorem setB_length {M : List LnM} (h : RiseB M) (a n : Int) : (setB M a n).length = if n = 0 then M.length - (if hasB M a = true then 1 else 0) else if hasB M a = true then M.length else M.length + 1 := by
  induction M with
  | nil =>
    unfold setB
    by_cases hn : n = 0
    · rw [if_pos hn, if_pos hn]; rfl
    · rw [if_neg hn, if_neg hn]; rfl
  | cons x M ih =>
    have hc : hasB (x :: M) a = (decide (x.c = a) || hasB M a) := rfl
    have hno : a ≤ x.c → hasB M a = false := fun hle => hasB_no.2 fun y hy => by have := h.head y hy; omega
    unfold setB
    rw [hc]
    by_cases hlt : x.c < a
    · rw [if_pos hlt, List.length_cons, ih h.tail, decide_eq_false (by omega), Bool.false_or]
      by_cases hn : n = 0
      · rw [if_pos hn, if_pos hn]
        by_cases hb : hasB M a = true
        · rw [if_pos hb, List.length_cons]
          have : 0 < M.length := by
            cases M with
            | nil => simp [hasB] at hb
            | cons y M => simp
          omega
        · rw [if_neg hb, List.length_cons]; rfl
      · rw [if_neg hn, if_neg hn]
        by_cases hb : hasB M a = true
        · rw [if_pos hb, if_pos hb, List.length_cons]
        · rw [if_neg hb, if_neg hb, List.length_cons]
    · rw [if_neg hlt, hno (by omega), Bool.or_false]
      by_cases he : x.c = a
      · rw [if_pos he, decide_eq_true he, if_pos rfl, if_pos rfl]
        by_cases hn : n = 0
        · rw [if_pos hn, if_pos hn, List.length_cons]; omega
        · rw [if_neg hn, if_neg hn]; simp
      · rw [if_neg he, decide_eq_false he]
        by_cases hn : n = 0
        · rw [if_pos hn, if_pos hn]; simp
        · rw [if_neg hn, if_neg hn]; simp
/-- what each account has in the map -/
def BkF (M : List LnM) (f : Lit → Option Value) : Prop := ∀ k : Int, inR k → f (.int .i64 k) = if hasB M k = true then some (.int .i64 (getB M k)) else none
/-- books in memory -/
structure BooksIs (N : Nat) (w : World) (p bm : Nat) (M : List LnM) : Prop where
  head : w.heap[p]? = some (.cells #[.map (some bm)] 62 (0, 0))
  map : ∃ f n, n ≤ N ∧ MapIs w Try.prog 3 bm n M.length f ∧ BkF M f
  rise : RiseB M
  nz : NzB M
  ok : ∀ x ∈ M, inR x.n ∧ 0 ≤ x.c ∧ x.c ≤ 65535
theorem BooksIs.lt {N : Nat} {w : World} {p bm : Nat} {M : List LnM} (h : BooksIs N w p bm M) : bm < w.heap.size ∧ p < w.heap.size := by
  obtain ⟨f, n, _, h1, h2⟩ := h.map
  exact ⟨h1.lt, heap_lt h.head⟩
theorem BooksIs.kept {N : Nat} {w w' : World} {p bm : Nat} {M : List LnM} (h : BooksIs N w p bm M) (h1 : w'.heap[p]? = w.heap[p]?) (h2 : w'.heap[bm]? = w.heap[bm]?) : BooksIs N w' p bm M := by
  obtain ⟨f, n, g0, g1, g2⟩ := h.map
  exact ⟨h1.trans h.head, ⟨f, n, g0, g1.kept h2, g2⟩, h.rise, h.nz, h.ok⟩
theorem BooksIs.below {N : Nat} {w w' : World} {p bm : Nat} {M : List LnM} (h : BooksIs N w p bm M) (hb : Below w.heap.size w w') : BooksIs N w' p bm M := h.kept (hb.block _ h.lt.2) (hb.block _ h.lt.1)
theorem BooksIs.drew {N : Nat} {w : World} {p bm : Nat} {M : List LnM} (h : BooksIs N w p bm M) : BooksIs N w.drew p bm M := h.kept rfl rfl
theorem BooksIs.drewN {N : Nat} {w : World} {p bm : Nat} {M : List LnM} (h : BooksIs N w p bm M) (n : Nat) : BooksIs N (w.drewN n) p bm M := h.kept rfl rfl
theorem BooksIs.mono {N N' : Nat} {w : World} {p bm : Nat} {M : List LnM} (h : BooksIs N w p bm M) (hN : N ≤ N') : BooksIs N' w p bm M := by
  obtain ⟨f, n, g0, g1, g2⟩ := h.map
  exact ⟨h.head, ⟨f, n, Nat.le_trans g0 hN, g1, g2⟩, h.rise, h.nz, h.ok⟩
theorem zero_cents (w : World) : (zeroValue 37).run Try.prog w = .ok (.int .i64 0) w := by kernel_rfl
theorem BooksIs.at1 {N : Nat} {w : World} {p bm : Nat} {M : List LnM} (h : BooksIs N w p bm M) {k : Int} (hk : inR k) : (Instr.lookup 60 (.map (some bm)) (.int .i64 k) false).run Try.prog w = .ok (.int .i64 (getB M k)) w := by
  obtain ⟨f, n, _, hM, hF⟩ := h.map
  have h1 := hM.look Keyed_int Try.underlying60 (zero_cents w) (key_int hk) (by trivial)
  rw [hF k hk] at h1
  rw [h1]
  by_cases hb : hasB M k = true
  · rw [if_pos hb]; rfl
  · rw [if_neg hb, (hasB_get h.nz k).1 (by simpa using hb)]; rfl
set_option maxRecDepth 100000 in
theorem bkNew (w : World) : Calls Try.prog 5 #[] w fun e w' => ∃ p bm, e = .returned (.pointer (some ⟨p, 0, none⟩)) ∧ BooksIs 0 w' p bm [] ∧ w.heap.size ≤ bm ∧ w.heap.size ≤ p ∧ Below w.heap.size w w' := by
  have hmm := @run_makeMap Try.prog
  go_enter Try.func5, Try.ntmps5
  go_wp2_with fail
  go_ret
  have M1 := MapIs.made w Try.prog 3
  have hb1 := (Below.refl w.heap.size w).alloc (Nat.le_refl _) (.map #[] 0)
  have hs : (w.alloc (.map #[] 0)).heap.size = w.heap.size + 1 := by simp
  have hb2 := (Below.refl (w.alloc (.map #[] 0)).heap.size (w.alloc (.map #[] 0))).alloc (Nat.le_refl _) (.cells #[.map (some w.heap.size)] 62)
  have X := heap_new (w.alloc (.map #[] 0)) (.cells #[.map (some w.heap.size)] 62)
  rw [hs] at X
  exact ⟨w.heap.size + 1, w.heap.size, rfl, ⟨X, ⟨_, 0, Nat.le_refl _, M1.below hb2, fun k _ => rfl⟩, List.Pairwise.nil, (fun x hx => by cases hx), (fun x hx => by cases hx)⟩, Nat.le_refl _, by omega, hb1.trans (hb2.mono (by omega))⟩
theorem hasB_set {M : List LnM} (hr : RiseB M) (hz : NzB M) (a n k : Int) : hasB (setB M a n) k = if k = a then !decide (n = 0) else hasB M k := by
  have e : ∀ (A : List LnM), NzB A → hasB A k = !decide (getB A k = 0) := fun A hA => by
    by_cases h : getB A k = 0
    · rw [(hasB_get hA k).2 h, decide_eq_true h]; rfl
    · rw [decide_eq_false h]
      cases hb : hasB A k with
      | true => rfl
      | false => exact absurd ((hasB_get hA k).1 hb) h
  rw [e _ (setB_nz hz a n), getB_setB hr, e _ hz]
  by_cases h : k = a
  · rw [if_pos h, if_pos h]
  · rw [if_neg h, if_neg h]
theorem BooksIs.ne {N : Nat} {w : World} {p bm : Nat} {M : List LnM} (h : BooksIs N w p bm M) : p ≠ bm := fun e => by
  obtain ⟨f, n, _, ⟨D, ⟨es, nx, hh, _⟩, _⟩, _⟩ := h.map
  have := h.head
  rw [e, hh] at this
  cases this
theorem BooksIs.noCells {N : Nat} {w : World} {p bm : Nat} {M : List LnM} (h : BooksIs N w p bm M) (d : Array Value) (t : TypeId) (fz : Nat × Nat) : w.heap[bm]? ≠ some (.cells d t fz) := by
  obtain ⟨f, n, _, ⟨D, ⟨es, nx, hh, _⟩, _⟩, _⟩ := h.map
  intro he
  rw [hh] at he
  cases he
theorem BooksIs.put {N : Nat} {w w' : World} {p bm : Nat} {M : List LnM} (h : BooksIs N w p bm M) {a n : Int} (ha : 0 ≤ a ∧ a ≤ 65535) (hn : inR n) {f f' : Lit → Option Value} {c : Nat} (hF : BkF M f) (hc : c ≤ N + 1) (hm : MapIs w' Try.prog 3 bm c (setB M a n).length f')
    (hf : ∀ j, inR j → f' (.int .i64 j) = if j = a then (if n = 0 then none else some (.int .i64 n)) else f (.int .i64 j)) (ho : Only bm w w') : BooksIs (N + 1) w' p bm (setB M a n) :=
  ⟨(ho.block _ (heap_lt h.head) h.ne).trans h.head, ⟨f', c, hc, hm, fun j hj => by
    rw [hf j hj, hasB_set h.rise h.nz, getB_setB h.rise]
    by_cases e : j = a
    · rw [if_pos e, if_pos e, if_pos e]
      by_cases h0 : n = 0
      · rw [if_pos h0, decide_eq_true h0]; rfl
      · rw [if_neg h0, decide_eq_false h0]; rfl
    · rw [if_neg e, if_neg e, if_neg e, hF j hj]⟩, setB_rise h.rise a n, setB_nz h.nz a n, fun y hy => by
    rcases mem_setB hy with h1 | ⟨rfl, -⟩
    · exact h.ok y h1
    · exact ⟨hn, ha⟩⟩
theorem same_int (j a : Int) : (Lit.int .i64 j).sameKey (.int .i64 a) = true ↔ j = a := by simp [Lit.sameKey]
set_option maxRecDepth 100000 in
theorem bkBal (N p bm : Nat) (M : List LnM) (k : Int) (hk : inR k) (w : World) (h : BooksIs N w p bm M) :
    Calls Try.prog 14 #[.pointer (some ⟨p, 0, none⟩), .int .i64 k] w fun e w' => e = .returned (.int .i64 (getB M k)) ∧ w = w' := by
  have hlk := h.at1 hk
  have e0 := cell_of_block h.head 0
  go_enter Try.func14, Try.ntmps14
  go_wp2_with fail
  go_ret
  exact ⟨rfl, rfl⟩
set_option maxRecDepth 100000 in
theorem bkSet (N : Nat) (hN : N ≤ 1000000) (p bm : Nat) (M : List LnM) (a n : Int) (ha : 0 ≤ a ∧ a ≤ 65535) (hn : inR n) (w : World) (h : BooksIs N w p bm M) :
    Calls Try.prog 25 #[.pointer (some ⟨p, 0, none⟩), .int .i64 a, .int .i64 n] w fun e w' => e = .returned (.tuple #[]) ∧ BooksIs (N + 1) w' p bm (setB M a n) ∧ Only bm w w' := by
  obtain ⟨f, c, hc, hM, hF⟩ := h.map
  have e0 := cell_of_block h.head 0
  have H := hide h
  have HM := hide hM
  have HF := hide hF
  have hka : inR a := ⟨by omega, by omega⟩
  have HK := hide (key_int (a := a) hka)
  have hfa := hF a hka
  have hl := setB_length h.rise a n
  have HL := hide hl
  have HFA := hide hfa
  clear h hM hF hl hfa
  go_enter Try.func25, Try.ntmps25
  by_cases h0 : n = 0
  · go_wp2_with (refine wpList_mapDrop _ rfl _ _ 60 3 rfl 37 Keyed_int Try.underlying60 bm c M.length f rfl HM.out (.int .i64 a) (.int .i64 a) rfl HK.out (by trivial) ?_; intro w4 hm4 hg4; have HM4 := hide hm4; have HG4 := hide (only_of_grown hg4); clear hm4 hg4)
    refine bodyPost_ret (results_none rfl _ _ _) rfl ?_
    have hlen : M.length - (if (f (.int .i64 a)).isSome then 1 else 0) = (setB M a n).length := by
      rw [HL.out, if_pos h0, HFA.out]
      cases hasB M a <;> rfl
    have hm := HM4.out
    rw [hlen] at hm
    refine ⟨rfl, H.out.put ha hn HF.out (Nat.le_succ_of_le hc) hm (fun j hj => ?_) HG4.out, HG4.out⟩
    show (if (Lit.int .i64 j).sameKey (.int .i64 a) = true then _ else _) = _
    by_cases e : j = a
    · rw [if_pos ((same_int j a).2 e), if_pos e, if_pos h0]
    · rw [if_neg (fun h => e ((same_int j a).1 h)), if_neg e]
  · have hmn : ∀ W, (binOp BinOp.eql 60 (.map (some bm)) (.map none)).run Try.prog W = .ok (.bool false) W := fun W => by kernel_rfl
    go_wp2_with (refine wpList_mapStore _ rfl _ _ _ 60 rfl 3 37 Keyed_int Try.underlying60 bm c M.length f rfl HM.out (by unfold maxLen; omega) (.int .i64 a) (.int .i64 n) (.int .i64 a) rfl rfl HK.out (by trivial) ?_; intro w4 hm4 hg4; have HM4 := hide hm4; have HG4 := hide (only_of_grown hg4); clear hm4 hg4)
    go_end0
    have hlen : (if (f (.int .i64 a)).isSome then M.length else M.length + 1) = (setB M a n).length := by
      rw [HL.out, if_neg h0, HFA.out]
      cases hasB M a <;> rfl
    have hm := HM4.out
    rw [hlen] at hm
    refine ⟨rfl, H.out.put ha hn HF.out (Nat.succ_le_succ hc) hm (fun j hj => ?_) HG4.out, HG4.out⟩
    show (if (Lit.int .i64 j).sameKey (.int .i64 a) = true then _ else _) = _
    by_cases e : j = a
    · rw [if_pos ((same_int j a).2 e), if_pos e, if_neg h0]
    · rw [if_neg (fun h => e ((same_int j a).1 h)), if_neg e]
end Go.Proofs.Ytjnfmgbbhiklaaa
