/-
  Layer 26: the fields of shifts: plain.
-/
import Derived.Test.YtfdgfeohmkdnoaaMSh
import Derived.Test.YtfdgfeohmkdnoaaWF
--import Derived.Test.Zdbg
namespace Go.Proofs.Ytfdgfeohmkdnoaa
set_option linter.unusedSimpArgs false
set_option linter.unusedVariables false
open Go.RowKit Go.WideShapes Go.ChangeShapes Go.ChangeAt Go.Deep

def totS (t : TotM) : List Int := [t.s, t.v, t.r, t.i, t.o]
/-- the fields of totals, as far as the first k sums -/
def totFk (t : TotM) (k : Nat) : List Fld := ⟨0, 4, t.c, ⟨#[]⟩⟩ :: ((totS t).take k).map fun x => ⟨1, 0, IntKind.u64.wrap x, ⟨#[]⟩⟩
def totF (t : TotM) : List Fld := totFk t 5
theorem totF_len (t : TotM) : (totF t).length = 6 := rfl
theorem totFs_len : ∀ L : List TotM, (L.flatMap totF).length = L.length * 6
  | [] => rfl
  | x :: L => by rw [List.flatMap_cons, List.length_append, totFs_len L, totF_len, List.length_cons]; omega
def shH (M : ShM) : List Fld := [⟨0, 5, M.next, ⟨#[]⟩⟩, ⟨0, 1, if M.op = true then 1 else 0, ⟨#[]⟩⟩, ⟨0, 1, (M.L.length : Int), ⟨#[]⟩⟩]
def shFk (M : ShM) (m : Nat) : List Fld := shH M ++ (M.L.take m).flatMap totF
def shF (M : ShM) : List Fld := shH M ++ M.L.flatMap totF ++ (if M.op = true then totF M.now else [])
theorem shF_open {M : ShM} (h : M.op = true) : shF M = shH M ++ M.L.flatMap totF ++ totF M.now := by unfold shF; rw [if_pos h]
theorem shF_shut {M : ShM} (h : M.op = false) : shF M = shH M ++ M.L.flatMap totF := by unfold shF; rw [if_neg (by rw [h]; decide), List.append_nil]
theorem shFk_zero (M : ShM) : shFk M 0 = shH M := by simp [shFk]
theorem shFk_all (M : ShM) : shFk M M.L.length = shH M ++ M.L.flatMap totF := by unfold shFk; rw [List.take_length]
theorem shTake (L : List TotM) (m : Nat) (h : m < L.length) : L.take (m + 1) = L.take m ++ [L.getD m tot0] := by
  rw [List.take_add_one]
  simp [List.getD, h]
theorem shFk_next (M : ShM) (m : Nat) (h : m < M.L.length) : shFk M (m + 1) = shFk M m ++ totF (M.L.getD m tot0) := by
  unfold shFk
  rw [shTake M.L m h, List.flatMap_append, ← List.append_assoc]
  simp
theorem shFk_len (M : ShM) (m : Nat) (h : m ≤ M.L.length) (h64 : M.L.length ≤ 64) : (shFk M m).length ≤ 390 := by
  unfold shFk
  rw [List.length_append, totFs_len, List.length_take]
  simp only [shH, List.length_cons, List.length_nil]
  omega
theorem shF_len (M : ShM) (h64 : M.L.length ≤ 64) : (shF M).length ≤ 400 := by
  unfold shF
  rw [List.length_append, List.length_append, totFs_len]
  simp only [shH, List.length_cons, List.length_nil]
  split
  · rw [totF_len]; omega
  · simp; omega
theorem shW_append (A B : List Fld) : wrFs (A ++ B) = B.foldl (fun z x => wrF z.1 z.2 x) (wrFs A) := by unfold wrFs; rw [List.foldl_append]
theorem shW_num (l : List UInt8) (n w : Nat) (hw : 1 ≤ w ∧ w ≤ 8) (hn : n < 256 ^ w) : (wrF l false ⟨0, w, (n : Int), ⟨#[]⟩⟩).2 = false := by
  show wrB false (fitsB ((n : Int)).toNat (w : Int)) = false
  have : fitsB ((n : Int)).toNat (w : Int) = true := by
    unfold fitsB
    exact decide_eq_true ⟨by omega, by omega, by simpa using hn⟩
  rw [this]; rfl
theorem shW_sig (l : List UInt8) (x : Int) : (wrF l false ⟨1, 0, IntKind.u64.wrap x, ⟨#[]⟩⟩).2 = false := by
  have hx : 0 ≤ IntKind.u64.wrap x ∧ IntKind.u64.wrap x ≤ 18446744073709551615 := by rw [IntKind.wrap_u64]; omega
  show wrB false (fitsB (IntKind.u64.wrap x).toNat 8) = false
  have : fitsB (IntKind.u64.wrap x).toNat 8 = true := by
    unfold fitsB
    exact decide_eq_true ⟨by omega, by omega, by
      show (IntKind.u64.wrap x).toNat < 256 ^ 8
      omega⟩
  rw [this]; rfl
theorem shW_step {z : List UInt8 × Bool} {x : Fld} (hz : z.2 = false) (h : ∀ l, (wrF l false x).2 = false) : (wrF z.1 z.2 x).2 = false := by rw [hz]; exact h z.1
theorem totF_ok {t : TotM} (h : TotOk t) (z : List UInt8 × Bool) (hz : z.2 = false) : ((totF t).foldl (fun z x => wrF z.1 z.2 x) z).2 = false := by
  have hc := h.c
  unfold totF totFk totS
  simp only [List.take, List.map_cons, List.map_nil, List.foldl_cons, List.foldl_nil]
  refine shW_step (shW_step (shW_step (shW_step (shW_step (shW_step hz ?_) (fun l => shW_sig l _)) (fun l => shW_sig l _)) (fun l => shW_sig l _)) (fun l => shW_sig l _)) (fun l => shW_sig l _)
  intro l
  have e : t.c = ((t.c.toNat : Nat) : Int) := by omega
  rw [e]
  exact shW_num l t.c.toNat 4 (by decide) (by omega)
theorem totFs_ok : ∀ (L : List TotM) (z : List UInt8 × Bool), (∀ t ∈ L, TotOk t) → z.2 = false → ((L.flatMap totF).foldl (fun z x => wrF z.1 z.2 x) z).2 = false
  | [], z, _, hz => hz
  | t :: L, z, h, hz => by
    rw [List.flatMap_cons, List.foldl_append]
    exact totFs_ok L _ (fun y hy => h y (by simp [hy])) (totF_ok (h t (by simp)) z hz)
theorem shF_okz {M : ShM} (h : ShOk M) (z : List UInt8 × Bool) (hz : z.2 = false) : ((shF M).foldl (fun z x => wrF z.1 z.2 x) z).2 = false := by
  have hn := h.nx
  have hk := h.kp
  have hf := h.few
  unfold shF
  rw [List.foldl_append, List.foldl_append]
  have h0 : ((shH M).foldl (fun z x => wrF z.1 z.2 x) z).2 = false := by
    unfold shH
    simp only [List.foldl_cons, List.foldl_nil]
    refine shW_step (shW_step (shW_step hz ?_) ?_) ?_
    · intro l
      have e : M.next = ((M.next.toNat : Nat) : Int) := by omega
      rw [e]
      exact shW_num l M.next.toNat 5 (by decide) (by omega)
    · intro l
      cases M.op with
      | true => exact shW_num l 1 1 (by decide) (by decide)
      | false => exact shW_num l 0 1 (by decide) (by decide)
    · intro l
      exact shW_num l M.L.length 1 (by decide) (by omega)
  have h1 := totFs_ok M.L _ h.L h0
  split
  · exact totF_ok h.now _ h1
  · exact h1
theorem shF_ok {M : ShM} (h : ShOk M) : (wrFs (shF M)).2 = false := shF_okz h ([], false) rfl
theorem totF_good {t : TotM} (h : TotOk t) : ∀ f ∈ totF t, FldGood f := by
  intro f hf
  have hc := h.c
  unfold totF totFk totS at hf
  simp only [List.take, List.map_cons, List.map_nil, List.mem_cons, List.not_mem_nil, or_false] at hf
  have hu : ∀ n : Int, 0 ≤ IntKind.u64.wrap n ∧ IntKind.u64.wrap n ≤ 18446744073709551615 := fun n => by rw [IntKind.wrap_u64]; omega
  rcases hf with rfl | rfl | rfl | rfl | rfl | rfl
  · exact ⟨by dsimp only; decide, by dsimp only; decide, ⟨by dsimp only; omega, by dsimp only; omega⟩, by dsimp only; decide⟩
  all_goals exact ⟨by dsimp only; decide, by dsimp only; decide, hu _, by dsimp only; decide⟩
theorem shF_good {M : ShM} (h : ShOk M) : ∀ f ∈ shF M, FldGood f := by
  intro f hf
  have hn := h.nx
  have hk := h.kp
  have hfw := h.few
  unfold shF at hf
  rcases List.mem_append.1 hf with hf | hf
  · rcases List.mem_append.1 hf with hf | hf
    · unfold shH at hf
      simp only [List.mem_cons, List.not_mem_nil, or_false] at hf
      rcases hf with rfl | rfl | rfl
      · exact ⟨by dsimp only; decide, by dsimp only; decide, ⟨by dsimp only; omega, by dsimp only; omega⟩, by dsimp only; decide⟩
      · refine ⟨by dsimp only; decide, by dsimp only; decide, ?_, by dsimp only; decide⟩
        dsimp only
        split <;> decide
      · exact ⟨by dsimp only; decide, by dsimp only; decide, ⟨by dsimp only; omega, by dsimp only; omega⟩, by dsimp only; decide⟩
    · obtain ⟨t, ht, hf⟩ := List.mem_flatMap.1 hf
      exact totF_good (h.L t ht) f hf
  · split at hf
    · exact totF_good h.now f hf
    · cases hf
end Go.Proofs.Ytfdgfeohmkdnoaa
