/-
  Lemmas and contracts of this project's own, put together: MvO.
-/
import Derived.Laws.IdiomStrings
import Derived.Test.YtmcaegbggblfpaaGreatPk19
namespace Go.Proofs.YtmcaegbggblfpaaGreat
set_option linter.unusedSimpArgs false
set_option linter.unusedVariables false
open Go.RowKit Go.WideShapes Go.ChangeShapes Go.ChangeAt Go.Deep W

theorem byte_text (w : World) (b : Nat) (x : Nat) (hx : x < 256) (h : w.heap[b]? = some (.cells #[.int .u8 (x : Int)] 5 (0, 0))) :
    (convert 66 9 (.slice (some ⟨b, 0, none⟩) 1 1)).run Tryz.prog w = .ok (.string ⟨#[UInt8.ofNat x]⟩) w := by
  have h1 := run_convert_bytes_back (P := Tryz.prog) w 66 9 5 ⟨b, 0, none⟩ 1 [UInt8.ofNat x] Tryz.underlying66 Tryz.underlying5 Tryz.underlying9 (fun i hi => by
    obtain rfl : i = 0 := by have : i < 1 := hi; omega
    refine (cell_of_block h 0).trans ?_
    show some (Value.int .u8 (x : Int)) = some (Value.int .u8 ((UInt8.ofNat x).toNat : Int))
    rw [UInt8.toNat_ofNat', Nat.mod_eq_of_lt hx])
  exact h1
theorem nums16 {w : World} {k : IntKind} {v : Value} {zs : List Int} (h : NumsAt w k v zs) : ∃ (a : Option Addr) (cap : Nat), v = .slice a zs.length cap ∧ zs.length ≤ cap ∧ ∀ i, i < zs.length → ∃ b off, a = some ⟨b, off, none⟩ ∧ b < w.heap.size ∧ w.cell? ⟨b, off + i, none⟩ = some (.int k (zs.getD i 0)) := by
  rcases h with ⟨rfl, rfl⟩ | ⟨b, off, cap, rfl, hc, hm, hp, hi⟩ | ⟨a, cap, rfl, rfl⟩
  · exact ⟨none, 0, rfl, Nat.le_refl _, fun i hi => by simp at hi⟩
  · exact ⟨some ⟨b, off, none⟩, cap, rfl, hc, fun i hil => ⟨b, off, rfl, World.block_lt_of_cell? w _ (hi i hil), hi i hil⟩⟩
  · exact ⟨some a, cap, rfl, Nat.zero_le _, fun i hi => by simp at hi⟩
theorem bytes_list (t : ByteArray) : ∃ td : List UInt8, t = bs td ∧ td.length = t.size := ⟨t.data.toList, rfl, size_list t⟩
theorem tg_ok16 (l : Int) (i : Nat) (h : 0 ≤ l ∧ l ≤ 65535) (hi : i ≤ 1000) : TgM.ok ⟨1, l, (i : Int) + 1, 0, 1⟩ := by
  unfold TgM.ok TagOk
  dsimp only
  omega
theorem mod_nat (b : Int) (h : 0 ≤ b) (n : Nat) (hn : 0 < n) : ∃ c : Nat, b.tmod (n : Int) = (c : Int) ∧ c < n := by
  refine ⟨(b % (n : Int)).toNat, ?_, ?_⟩
  · rw [Int.tmod_eq_emod_of_nonneg h, Int.toNat_of_nonneg (Int.emod_nonneg _ (by omega))]
  · have h1 := Int.emod_nonneg b (show (n : Int) ≠ 0 by omega)
    have h2 := Int.emod_lt_of_pos b (show (0 : Int) < (n : Int) by omega)
    omega
theorem wrap_sm (n : Int) (h : -1000000 ≤ n ∧ n ≤ 1000000) : wrap64 n = n := by unfold wrap64; omega
theorem u64_id16 (n : Int) (h : 0 ≤ n) (h2 : n ≤ 18446744073709551615) : IntKind.u64.wrap n = n := by
  unfold IntKind.wrap
  simp [IntKind.signed, IntKind.bits]
  omega
theorem run_storeVar_part {P : Program} (w : World) (g off : Nat) (t ty : TypeId) (old cs : Array Value) (hg : w.heap[g]? = some (.cells old t (0, 0))) (hi : (P.info? ty).map (·.size) = some cs.size)
    (hfit : off + cs.size ≤ old.size) (h1 : cs.all (·.oneCell') = true) :
    (storeVar ty ⟨g, off, none⟩ (.agg cs)).run P w = .ok () (w.setRow g (old.toList.take off ++ cs.toList ++ old.toList.drop (off + cs.size)).toArray) := by
  have := run_storeCells_at P g off t cs.toList 0 old w hg (by simpa using hfit) (fun v hv => (Array.all_eq_true_iff_forall_mem.1 h1) v (by simpa using hv))
  cases hq : P.info? ty with
  | none => simp [hq] at hi
  | some i =>
    have hs : cs.size = i.size := by simp [hq] at hi; omega
    simp [storeVar, sizeOf, typeInfo, hq, Value.cells, hs] at this ⊢
    exact this
/-- a row, stored into a part of a greater one, at the operation -/
theorem wpList_storePart {P : Program} {ops : Array Oper} {rest : List Oper} {o : Oper} {a : Act} {w : World} {Q : Exit → Act → World → Prop} (hgd : o.guard = none) (ty : TypeId) (x y : Operand) (ho : o.op = .store ty x y)
    (g off : Nat) (hx : a.eval x = .pointer (some ⟨g, off, none⟩)) (cs : Array Value) (hy : a.eval y = .agg cs) (t : TypeId) (old new : Array Value) (hg : w.heap[g]? = some (.cells old t (0, 0)))
    (hi : (P.info? ty).map (·.size) = some cs.size) (hfit : off + cs.size ≤ old.size) (h1 : cs.all (·.oneCell') = true)
    (hnew : (old.toList.take off ++ cs.toList ++ old.toList.drop (off + cs.size)).toArray = new)
    (h : wpList P ops Q rest (a.put o.dst undef) (w.setRow g new)) : wpList P ops Q (o :: rest) a w :=
  wpList_plain hgd fun _ hK => by
    subst hnew
    unfold Oper.wp execOp
    simp only [ho, hx, hy, Instr.storeAt, Instr.sureAddr, Sem.run_bind, Sem.run_pure, Result.andThen_ok, run_storeVar_part w g off t ty old cs hg hi hfit h1]
    exact hK _ _ h
/-- where a logical page is, or the zero place -/
def spZ (M : Spots) (l : Nat) : Int × Int := (M.getD l none).getD (0, 0)
theorem at16 {w : World} {p q o l : Nat} {pg : Int} {nb : Nat} {S : Spots} (i : Nat) (hi : i < S.length) (h : WhereAt w p q o l pg nb S) :
    Calls Tryz.prog 19 #[.pointer (some ⟨p, 0, none⟩), .int .i64 (i : Int)] w fun e w' => e = .returned (.tuple #[.agg #[.int .i64 (spZ S i).1, .int .i64 (spZ S i).2], .bool (S.getD i none).isSome]) ∧ Below w.heap.size w w' := by
  unfold spZ
  cases hs : S.getD i none with
  | none => exact at_none h i hi hs
  | some x => exact at_some h i hi x.1 x.2 hs
/-- an array of places, the first k known -/
def arrL (M : Spots) (n k : Nat) : List (Int × Int) := (List.range n).map fun i => if i < k then spZ M i else (0, 0)
theorem arrL_len (M : Spots) (n k : Nat) : (arrL M n k).length = n := by simp [arrL]
theorem arrL_at (M : Spots) (n k i : Nat) (hi : i < n) : (arrL M n k).getD i (0, 0) = if i < k then spZ M i else (0, 0) := by simp [arrL, List.getD, hi]
theorem arrL_next (M : Spots) (n k : Nat) (hk : k < n) : (arrL M n k).set k (spZ M k) = arrL M n (k + 1) := by
  apply List.ext_getElem
  · simp [arrL_len]
  · intro i h1 h2
    have hi : i < n := by rw [List.length_set, arrL_len] at h1; exact h1
    rw [List.getElem_set]
    simp only [arrL, List.getElem_map, List.getElem_range]
    by_cases e : k = i
    · subst e; rw [if_pos rfl, if_pos (by omega)]
    · rw [if_neg e]
      by_cases e2 : i < k
      · rw [if_pos e2, if_pos (by omega)]
      · rw [if_neg e2, if_neg (by omega)]
theorem arr_zero (M : Spots) : (flat2 (arrL M 6 0)).toArray = #[.int .i64 0, .int .i64 0, .int .i64 0, .int .i64 0, .int .i64 0, .int .i64 0, .int .i64 0, .int .i64 0, .int .i64 0, .int .i64 0, .int .i64 0, .int .i64 0] := rfl
theorem flat2_head (x : Int × Int) (L : List (Int × Int)) : flat2 (x :: L) = .int .i64 x.1 :: .int .i64 x.2 :: flat2 L := rfl
theorem flat2_dbl (L : List (Int × Int)) : (flat2 L).length = L.length * 2 := by
  induction L with
  | nil => rfl
  | cons x L ih => rw [flat2_head, List.length_cons, List.length_cons, ih, List.length_cons]; omega
theorem flat2_put : ∀ (L : List (Int × Int)) (k : Nat) (x : Int × Int), k < L.length → (flat2 L).take (k * 2) ++ [.int .i64 x.1, .int .i64 x.2] ++ (flat2 L).drop (k * 2 + 2) = flat2 (L.set k x)
  | [], k, x, h => absurd h (by simp)
  | a :: L, 0, x, h => by rw [flat2_head]; rfl
  | a :: L, k + 1, x, h => by
    have ih := flat2_put L k x (by simpa using h)
    rw [flat2_head, List.set_cons_succ, flat2_head, ← ih, show (k + 1) * 2 = k * 2 + 1 + 1 by omega, show k * 2 + 1 + 1 + 2 = k * 2 + 2 + 1 + 1 by omega]
    rfl
end Go.Proofs.YtmcaegbggblfpaaGreat
