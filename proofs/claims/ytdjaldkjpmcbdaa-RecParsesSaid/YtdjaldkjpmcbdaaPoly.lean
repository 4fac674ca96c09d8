/-
  Layer 2, the program's calls: poly.Make, First, More, Last, Sum by contracts.
-/
import Derived.Test.YtdjaldkjpmcbdaaKit
import Derived.Test.YtdjaldkjpmcbdaaM2
import Derived.Deep.WholeRow
namespace Go.Proofs.Ytdjaldkjpmcbdaa
set_option linter.unusedSimpArgs false
set_option linter.unusedVariables false
open Go.RowKit

/-- the table behind k rounds -/
def tabC (k : Nat) : Array Value := ((List.range 256).map fun b => if b < k then Value.int .u32 (tabN b : Int) else Value.int .u32 0).toArray
theorem tabC_size (k : Nat) : (tabC k).size = 256 := by simp [tabC]
theorem tabC_at (k j : Nat) (h : j < 256) : (tabC k)[j]? = some (if j < k then Value.int .u32 (tabN j : Int) else Value.int .u32 0) := by simp [tabC, h]
theorem tabC_next (k : Nat) (h : k < 256) : (tabC k).setIfInBounds k (.int .u32 (tabN k : Int)) = tabC (k + 1) := by
  apply Array.ext_getElem?
  intro i
  rw [Array.getElem?_setIfInBounds, tabC_size]
  by_cases hi : i < 256
  · rw [tabC_at _ _ hi, tabC_at _ _ hi]
    by_cases hk : k = i
    · subst hk; simp [h]
    · rw [if_neg hk]
      by_cases h1 : i < k
      · simp [h1, show i < k + 1 by omega]
      · simp [h1, show ¬ i < k + 1 by omega]
  · have e1 : (tabC k)[i]? = none := by rw [Array.getElem?_eq_none]; rw [tabC_size]; omega
    have e2 : (tabC (k + 1))[i]? = none := by rw [Array.getElem?_eq_none]; rw [tabC_size]; omega
    rw [e1, e2]
    split
    · omega
    · rfl
theorem tab_zero : (Try.prog.info? 25).map (fun i => (i.zero, i.size)) = some (some (.agg (tabC 0)), 256) := by kernel_rfl

theorem Tn_0 (s : St) : Tn 0 s = s := rfl
theorem Tn_s (n : Nat) (s : St) : Tn (n + 1) s = T (Tn n s) := rfl
theorem tabN_def (k : Nat) : tabN k = (Tn 8 (BitVec.ofNat 32 k <<< 24)).toNat := rfl
/-- the state behind j of the eight steps that make the place k -/
def tnN (j k : Nat) : Nat := (Tn j (BitVec.ofNat 32 k <<< 24)).toNat
theorem tnN_0 (k : Nat) (h : k < 256) : tnN 0 k = k * 16777216 := start_nat k h
theorem tnN_8 (k : Nat) : tnN 8 k = tabN k := rfl

theorem tab_size : (Try.prog.info? 25).map (·.size) = some 256 := by kernel_rfl
theorem round_T (s : St) : bits .xor .u32 (IntKind.u32.wrap ((s.toNat : Int) * 2)) (IntKind.u32.wrap ((s.toNat : Int) / 2147483648 * 79764919)) = ((T s).toNat : Int) := by
  have hs := s.isLt
  rw [T_nat, IntKind.wrap_u32, IntKind.wrap_u32]
  have e1 : (s.toNat : Int) * 2 % 4294967296 = ((s.toNat * 2 % 4294967296 : Nat) : Int) := by omega
  have e2 : (s.toNat : Int) / 2147483648 * 79764919 % 4294967296 = ((s.toNat / 2147483648 * 79764919 : Nat) : Int) := by omega
  rw [e1, e2, u32_xor_nat _ _ (by omega) (by omega)]

theorem round_tn (j k : Nat) : bits .xor .u32 (IntKind.u32.wrap ((tnN j k : Int) * 2)) (IntKind.u32.wrap ((tnN j k : Int) / 2147483648 * 79764919)) = (tnN (j + 1) k : Int) :=
  round_T (Tn j (BitVec.ofNat 32 k <<< 24))
attribute [irreducible] tabC tnN

theorem cell_of_block {w : World} {b : Nat} {c : Array Value} {t : TypeId} {fr : Nat × Nat} (h : w.heap[b]? = some (.cells c t fr)) (j : Nat) : w.cell? ⟨b, j, none⟩ = c[j]? := by simp [World.cell?, h]
theorem frozen_of_block {w : World} {b : Nat} {c : Array Value} {t : TypeId} (h : w.heap[b]? = some (.cells c t (0, 0))) (j : Nat) : w.frozen? ⟨b, j, none⟩ = false := by
  simp [World.frozen?, h]
theorem block_setCell {w : World} {b : Nat} {c : Array Value} {t : TypeId} {fr : Nat × Nat} (h : w.heap[b]? = some (.cells c t fr)) (j : Nat) (v : Value) : (w.setCell ⟨b, j, none⟩ v).heap[b]? = some (.cells (c.setIfInBounds j v) t fr) := by
  simp [World.setCell, Array.getElem?_modify, h]
theorem block_setCell_other {w : World} {b g : Nat} (hne : g ≠ b) (j : Nat) (v : Value) : (w.setCell ⟨g, j, none⟩ v).heap[b]? = w.heap[b]? := by
  simp [World.setCell, Array.getElem?_modify, hne]

theorem wp_store_row {P : Program} {o : Oper} {a : Act} {w : World} {K : Act → World → Prop} {Q : Exit → Act → World → Prop} (ty : TypeId) (x y : Operand) (ho : o.op = .store ty x y)
    (g : Nat) (hx : a.eval x = .pointer (some ⟨g, 0, none⟩)) (cs : Array Value) (hy : a.eval y = .agg cs) (old : Array Value) (hg : w.heap[g]? = some (.cells old ty (0, 0)))
    (hi : (P.info? ty).map (·.size) = some cs.size) (hs : old.size = cs.size) (h1 : cs.all (·.oneCell') = true)
    (h : K (a.put o.dst undef) (w.setRow g cs)) : o.wp P a w K Q := by
  unfold Oper.wp execOp
  simp only [ho, hx, hy, Instr.storeAt, Instr.sureAddr, Sem.run_bind, Sem.run_pure, Result.andThen_ok, run_storeVar_row w g ty ty old cs hg hi hs h1]
  exact h
theorem wpList_store_row {P : Program} {ops : Array Oper} {rest : List Oper} {o : Oper} {a : Act} {w : World} {Q : Exit → Act → World → Prop} (hgd : o.guard = none) (ty : TypeId) (x y : Operand) (ho : o.op = .store ty x y)
    (g : Nat) (hx : a.eval x = .pointer (some ⟨g, 0, none⟩)) (cs : Array Value) (hy : a.eval y = .agg cs) (old : Array Value) (hg : w.heap[g]? = some (.cells old ty (0, 0)))
    (hi : (P.info? ty).map (·.size) = some cs.size) (hs : old.size = cs.size) (h1 : cs.all (·.oneCell') = true)
    (h : wpList P ops Q rest (a.put o.dst undef) (w.setRow g cs)) : wpList P ops Q (o :: rest) a w :=
  wpList_plain hgd fun _ hK => wp_store_row ty x y ho g hx cs hy old hg hi hs h1 (hK _ _ h)
theorem tab_size' (k : Nat) : (Try.prog.info? 25).map (·.size) = some (tabC k).size := by rw [tabC_size]; exact tab_size
theorem tabC_sizes (j k : Nat) : (tabC j).size = (tabC k).size := by rw [tabC_size, tabC_size]
theorem tabC_one (k : Nat) : (tabC k).all (·.oneCell') = true := by
  rw [Array.all_eq_true]
  intro i hi
  rw [tabC_size] at hi
  have h := tabC_at k i hi
  rw [Array.getElem?_eq_getElem (by rw [tabC_size]; exact hi)] at h
  injection h with h
  rw [h]
  split <;> rfl
theorem below_setRow {B : Nat} {a w : World} (h : Below B a w) {g : Nat} (hg : B ≤ g) (cs : Array Value) : Below B a (w.setRow g cs) :=
  h.trans ⟨rfl, rfl, rfl, by simp, fun k hk => setRow_other w g k cs (by omega)⟩

set_option maxRecDepth 20000 in
set_option maxHeartbeats 1000000 in
theorem make_any (w : World) : Calls Try.prog 7 #[] w fun e w' => e = .returned (.agg (tabC 256)) ∧ Below w.heap.size w w' := by
  have z := (zero_of_info tab_zero).1
  go_enter Try.func7, Try.ntmps7
  go_wp2
  clear z
  go_loopw [5] (fun i wr => ∃ k : Nat, k ≤ 256 ∧ i = .int .i64 k ∧ Below w.heap.size w wr ∧ wr.heap[w.heap.size]? = some (.cells (tabC 0) 25 (0, 0)) ∧ wr.heap[w.heap.size + 1]? = some (.cells (tabC k) 25 (0, 0))) (fun i _ => 256 - (intOf i).toNat)
  case atStart => exact ⟨0, by omega, rfl, by go_grown, by rw [Below.heap_alloc _ _ _ (by simp)]; exact heap_alloc_last _ _, by have := heap_alloc_last (w.alloc (.cells (tabC 0) 25)) (.cells (tabC 0) 25); rwa [World.size_alloc] at this⟩
  case round =>
    obtain ⟨k, hk, rfl, hb, hr, ht⟩ := hrel
    by_cases hlt : k < 256
    · have hcell := cell_of_block ht k
      rw [tabC_at k k hlt, if_neg (Nat.lt_irrefl k)] at hcell
      have hfr := frozen_of_block ht k
      have hr' := hide hr
      have ht' := hide ht
      clear hr ht
      go_wp2
      have e0 : Value.int .u32 ((k : Int) * 16777216) = .int .u32 (tnN 0 k : Int) := by rw [tnN_0 k hlt]; exact congrArg _ (by omega)
      rw [e0]
      clear e0
      obtain ⟨wo, rfl⟩ : ∃ wo : World, wo = wr := ⟨_, rfl⟩
      go_loop [3, 11] (fun s i => ∃ j : Nat, j ≤ 8 ∧ i = .int .i64 j ∧ s = .int .u32 (tnN j k : Int)) (fun _ i => 8 - (intOf i).toNat)
      case atStart => exact ⟨0, by omega, rfl, rfl⟩
      case round =>
        obtain ⟨j, hj, rfl, rfl⟩ := hrel
        by_cases hlj : j < 8
        · go_wp2
          go_round
          case rel => exact ⟨j + 1, by omega, by go_num, congrArg (Value.int .u32) (round_tn j k)⟩
          case measure => simp [intOf]; omega
        · obtain rfl : j = 8 := by omega
          go_wp2
          go_roundw
          case rel =>
            refine ⟨k + 1, by omega, by go_num, hb.setCell (by simp) _, by rw [block_setCell_other (by omega)]; exact hr'.out, ?_⟩
            rw [block_setCell ht'.out, tnN_8, tabC_next k hlt]
          case measure => simp [intOf]; omega
    · obtain rfl : k = 256 := by omega
      have hr' := hide hr
      have ht' := hide ht
      clear hr ht
      go_wp2_with (first | (refine wpList_load_row rfl 25 (.tmp 1) rfl (w.heap.size + 1) rfl 25 (tabC 256) (0, 0) (.array 256 23) ht'.out Try.underlying25 rfl (tab_size' 256) ?_) | (refine wpList_store_row rfl 25 (.tmp 0) (.tmp 25) rfl w.heap.size rfl (tabC 256) rfl (tabC 0) hr'.out (tab_size' 256) (tabC_sizes 0 256) (tabC_one 256) ?_))
      exact bodyPost_ret (results_cell_row (P := Try.prog) rfl _ _ w.heap.size 25 (tabC 256) (0, 0) (.array 256 23) rfl (setRow_heap _ _ _ _ _ _ hr'.out) Try.underlying25 rfl (tab_size' 256)) rfl ⟨rfl, below_setRow hb (Nat.le_refl _) _⟩

/-- the table lies at an address -/
def TabAt (w : World) (b o : Nat) : Prop := ∀ k, k < 256 → w.cell? ⟨b, o + k, none⟩ = some (.int .u32 (tabN k : Int))
/-- the state behind some bytes, as a number -/
def mN (s : St) (l : List UInt8) : Nat := (moreS s l).toNat
theorem mN_lt (s : St) (l : List UInt8) : mN s l < 4294967296 := (moreS s l).isLt
/-- which place of the table a byte asks for -/
def pN (m x : Nat) : Nat := m / 16777216 ^^^ x
theorem pN_lt (m x : Nat) (hm : m < 4294967296) (hx : x < 256) : pN m x < 256 := Nat.xor_lt_two_pow (n := 8) (by omega) (by omega)
theorem mN_snoc (s : St) (l : List UInt8) (x : UInt8) : mN s (l ++ [x]) = (mN s l * 256 % 4294967296) ^^^ tabN (pN (mN s l) x.toNat) := by
  unfold mN pN
  rw [more_append]
  exact more_nat _ _
theorem pN_eq (m : Nat) (hm : m < 4294967296) (x : UInt8) : bits .xor .u8 ((m : Int) / 16777216) (x.toNat : Int) = (pN m x.toNat : Int) := by
  have hx := x.toNat_lt
  have e : (m : Int) / 16777216 = ((m / 16777216 : Nat) : Int) := by omega
  rw [e, u8_xor_nat _ _ (by omega) (by omega)]
  rfl
theorem mN_eq (m t : Nat) (ht : t < 4294967296) : bits .xor .u32 ((m : Int) * 256 % 4294967296) (t : Int) = ((m * 256 % 4294967296 ^^^ t : Nat) : Int) := by
  have e : (m : Int) * 256 % 4294967296 = ((m * 256 % 4294967296 : Nat) : Int) := by omega
  rw [e, u32_xor_nat _ _ (by omega) ht]
attribute [irreducible] mN pN
attribute [local irreducible] tabN

set_option maxRecDepth 20000 in
set_option maxHeartbeats 1000000 in
theorem more_any (b o : Nat) (s : St) (l : ByteArray) (hl : l.size ≤ 9223372036854775807) (w : World) (ht : TabAt w b o) :
    Calls Try.prog 31 #[.pointer (some ⟨b, o, none⟩), .int .u32 (s.toNat : Int), .string l] w fun e w' => e = .returned (.int .u32 (mN s l.data.toList : Int)) ∧ ∃ n, w' = w.drewN n := by
  have ht' := hide ht
  clear ht
  have e0 : Value.int .u32 (s.toNat : Int) = .int .u32 (mN s [] : Int) := by unfold mN; rfl
  rw [e0]
  clear e0
  go_enter Try.func31, Try.ntmps31
  go_wp2
  go_loopw [1, 13] (fun t i wr => ∃ j : Nat, j ≤ l.size ∧ i = .int .i64 j ∧ t = .int .u32 (mN s (l.data.toList.take j) : Int) ∧ ∃ n, wr = w.drewN n) (fun _ i _ => l.size - (intOf i).toNat)
  case atStart => exact ⟨0, by omega, rfl, rfl, 0, rfl⟩
  case round =>
    obtain ⟨j, hj, rfl, rfl, n, rfl⟩ := hrel
    by_cases hlt : j < l.size
    · have hm := mN_lt s (l.data.toList.take j)
      have hs := hide (show mN s (l.data.toList.take (j + 1)) = (mN s (l.data.toList.take j) * 256 % 4294967296) ^^^ tabN (pN (mN s (l.data.toList.take j)) (l[j]).toNat) by
        rw [List.take_succ_eq_append_getElem (by rw [size_list]; exact hlt), mN_snoc, getElem_list l j hlt])
      generalize mN s (l.data.toList.take j) = m at hm hs ⊢
      have hp := pN_lt m (l[j]).toNat hm (l[j]).toNat_lt
      have hx := pN_eq m hm l[j]
      have hc := ht'.out (pN m (l[j]).toNat) hp
      go_wp2
      go_quiet (fail)
      go_wp2
      go_roundw
      case rel => exact ⟨j + 1, by omega, by go_num, congrArg (Value.int .u32) (by rw [hs.out]; exact mN_eq m _ (tabN_lt _)), _, rfl⟩
      case measure => simp [intOf]; omega
    · obtain rfl : j = l.size := by omega
      have hT := hide (show mN s (l.data.toList.take l.size) = mN s l.data.toList by rw [List.take_of_length_le (Nat.le_of_eq (size_list l))])
      go_wp2
      go_ret
      exact ⟨by rw [← hT.out]; rfl, n, rfl⟩
theorem more_nil (s : Int) (l : ByteArray) (w : World) :
    Calls Try.prog 31 #[.pointer none, .int .u32 s, .string l] w fun e w' => e = .returned (.int .u32 s) ∧ w = w' := by
  go_enter Try.func31, Try.ntmps31
  go_wp2
  go_ret
  exact ⟨rfl, rfl⟩
theorem first_any (w : World) : Calls Try.prog 32 #[] w fun e w' => e = .returned (.int .u32 4294967295) ∧ w = w' := by
  go_enter Try.func32, Try.ntmps32
  go_wp2
  go_ret
  exact ⟨rfl, rfl⟩
theorem not32 (n : Int) (h0 : 0 ≤ n) (h1 : n ≤ 4294967295) : bits .xor .u32 IntKind.u32.max n = 4294967295 - n := by
  obtain ⟨n, rfl⟩ := Int.eq_ofNat_of_zero_le h0
  have hn : n < 4294967296 := by omega
  have e : (IntKind.u32.max : Int) = ((4294967295 : Nat) : Int) := rfl
  rw [e, u32_xor_nat _ _ (by omega) hn]
  have h : (4294967295 ^^^ n : Nat) = 4294967295 - n := by
    have hb : (~~~ (BitVec.ofNat 32 n)).toNat = 4294967295 - n := by rw [BitVec.toNat_not, BitVec.toNat_ofNat, Nat.mod_eq_of_lt hn]
    rw [← hb, ← BitVec.xor_allOnes, BitVec.toNat_xor, BitVec.toNat_ofNat, Nat.mod_eq_of_lt hn, Nat.xor_comm]
    rfl
  rw [h]
  omega
theorem last_any (n : Int) (h0 : 0 ≤ n) (h1 : n ≤ 4294967295) (w : World) : Calls Try.prog 30 #[.int .u32 n] w fun e w' => e = .returned (.int .u32 (4294967295 - n)) ∧ w = w' := by
  go_enter Try.func30, Try.ntmps30
  go_wp2
  go_ret
  exact ⟨ret_int (not32 n h0 h1), rfl⟩
/-- the check, as a number -/
def cN (l : List UInt8) : Nat := 4294967295 - mN firstS l
theorem sum_any (b o : Nat) (l : ByteArray) (hl : l.size ≤ 9223372036854775807) (w : World) (ht : TabAt w b o) :
    Calls Try.prog 25 #[.pointer (some ⟨b, o, none⟩), .string l] w fun e w' => e = .returned (.int .u32 (cN l.data.toList : Int)) ∧ ∃ n, w' = w.drewN n := by
  have hm := mN_lt firstS l.data.toList
  have he := hide (show (4294967295 : Int) - (mN firstS l.data.toList : Int) = (cN l.data.toList : Int) by unfold cN; omega)
  have hM := hide (fun W (hw : TabAt W b o) => more_any b o firstS l hl W hw)
  rw [show ((firstS.toNat : Nat) : Int) = 4294967295 from rfl] at hM
  have ht' := hide ht
  clear ht
  generalize mN firstS l.data.toList = m at hm he hM
  go_enter Try.func25, Try.ntmps25
  go_wp2_with (first | (go_at_call 32; ((with_reducible refine (first_any _).mono ?_); rintro e w' ⟨rfl, rfl⟩)) | (go_at_call 31; ((with_reducible refine (hM.out _ ht'.out).mono ?_); rintro e w' ⟨rfl, n, rfl⟩)) | (go_at_call 30; ((with_reducible refine (last_any _ (by omega) (by omega) _).mono ?_); rintro e w' ⟨rfl, rfl⟩)))
  go_ret
  exact ⟨by rw [← he.out]; rfl, n, rfl⟩
theorem sum_nil (l : ByteArray) (w : World) :
    Calls Try.prog 25 #[.pointer none, .string l] w fun e w' => e = .returned (.int .u32 0) ∧ w = w' := by
  go_enter Try.func25, Try.ntmps25
  go_wp2
  go_ret
  exact ⟨rfl, rfl⟩
end Go.Proofs.Ytdjaldkjpmcbdaa
