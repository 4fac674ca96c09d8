/-
  Lemmas and contracts of this project's own, put together: Poly, Ref2, PolyT, Be, Cur.
-/
import Derived.Deep.WholeRow
import Derived.Test.YtjfmkfhjbdiojaaGreatPk10
namespace Go.Proofs.YtjfmkfhjbdiojaaGreat
set_option linter.unusedSimpArgs false
set_option linter.unusedVariables false
open Go.RowKit

/-- the table behind k rounds -/
def tabC (k : Nat) : Array Value := ((List.range 256).map fun b => if b < k then Value.int .u32 (tabN b : Int) else Value.int .u32 0).toArray
theorem tabC_size (k : Nat) : (tabC k).size = 256 := by simp [tabC]
theorem tabC_at (k j : Nat) (h : j < 256) : (tabC k)[j]? = some (if j < k then Value.int .u32 (tabN j : Int) else Value.int .u32 0) := by simp [tabC, h]
theorem tabC_next (k : Nat) (h : k < 256) : (tabC k).setIfInBounds k (.int .u32 (tabN k : Int)) = tabC (k + 1) := by
  apply Array.ext_getElem?
  intro i
  rw [Array.getElem?_setIfInBounds, tabC_size]
  by_cases hi : i < 256
  · rw [tabC_at _ _ hi, tabC_at _ _ hi]
    by_cases hk : k = i
    · subst hk; simp [h]
    · rw [if_neg hk]
      by_cases h1 : i < k
      · simp [h1, show i < k + 1 by omega]
      · simp [h1, show ¬ i < k + 1 by omega]
  · have e1 : (tabC k)[i]? = none := by rw [Array.getElem?_eq_none]; rw [tabC_size]; omega
    have e2 : (tabC (k + 1))[i]? = none := by rw [Array.getElem?_eq_none]; rw [tabC_size]; omega
    rw [e1, e2]
    split
    · omega
    · rfl
theorem tab_zero : (Tryz.prog.info? 95).map (fun i => (i.zero, i.size)) = some (some (.agg (tabC 0)), 256) := by kernel_rfl

theorem Tn_0 (s : St) : Tn 0 s = s := rfl
theorem Tn_s (n : Nat) (s : St) : Tn (n + 1) s = T (Tn n s) := rfl
theorem tabN_def (k : Nat) : tabN k = (Tn 8 (BitVec.ofNat 32 k <<< 24)).toNat := rfl
/-- the state behind j of the eight steps that make the place k -/
def tnN (j k : Nat) : Nat := (Tn j (BitVec.ofNat 32 k <<< 24)).toNat
theorem tnN_0 (k : Nat) (h : k < 256) : tnN 0 k = k * 16777216 := start_nat k h
theorem tnN_8 (k : Nat) : tnN 8 k = tabN k := rfl

theorem tab_size : (Tryz.prog.info? 95).map (·.size) = some 256 := by kernel_rfl
theorem round_T (s : St) : bits .xor .u32 (IntKind.u32.wrap ((s.toNat : Int) * 2)) (IntKind.u32.wrap ((s.toNat : Int) / 2147483648 * 79764919)) = ((T s).toNat : Int) := by
  have hs := s.isLt
  rw [T_nat, IntKind.wrap_u32, IntKind.wrap_u32]
  have e1 : (s.toNat : Int) * 2 % 4294967296 = ((s.toNat * 2 % 4294967296 : Nat) : Int) := by omega
  have e2 : (s.toNat : Int) / 2147483648 * 79764919 % 4294967296 = ((s.toNat / 2147483648 * 79764919 : Nat) : Int) := by omega
  rw [e1, e2, u32_xor_nat _ _ (by omega) (by omega)]

theorem round_tn (j k : Nat) : bits .xor .u32 (IntKind.u32.wrap ((tnN j k : Int) * 2)) (IntKind.u32.wrap ((tnN j k : Int) / 2147483648 * 79764919)) = (tnN (j + 1) k : Int) :=
  round_T (Tn j (BitVec.ofNat 32 k <<< 24))
attribute [irreducible] tabC tnN

theorem wp_store_row {P : Program} {o : Oper} {a : Act} {w : World} {K : Act → World → Prop} {Q : Exit → Act → World → Prop} (ty : TypeId) (x y : Operand) (ho : o.op = .store ty x y)
    (g : Nat) (hx : a.eval x = .pointer (some ⟨g, 0, none⟩)) (cs : Array Value) (hy : a.eval y = .agg cs) (old : Array Value) (hg : w.heap[g]? = some (.cells old ty (0, 0)))
    (hi : (P.info? ty).map (·.size) = some cs.size) (hs : old.size = cs.size) (h1 : cs.all (·.oneCell') = true)
    (h : K (a.put o.dst undef) (w.setRow g cs)) : o.wp P a w K Q := by
  unfold Oper.wp execOp
  simp only [ho, hx, hy, Instr.storeAt, Instr.sureAddr, Sem.run_bind, Sem.run_pure, Result.andThen_ok, run_storeVar_row w g ty ty old cs hg hi hs h1]
  exact h
theorem wpList_store_row {P : Program} {ops : Array Oper} {rest : List Oper} {o : Oper} {a : Act} {w : World} {Q : Exit → Act → World → Prop} (hgd : o.guard = none) (ty : TypeId) (x y : Operand) (ho : o.op = .store ty x y)
    (g : Nat) (hx : a.eval x = .pointer (some ⟨g, 0, none⟩)) (cs : Array Value) (hy : a.eval y = .agg cs) (old : Array Value) (hg : w.heap[g]? = some (.cells old ty (0, 0)))
    (hi : (P.info? ty).map (·.size) = some cs.size) (hs : old.size = cs.size) (h1 : cs.all (·.oneCell') = true)
    (h : wpList P ops Q rest (a.put o.dst undef) (w.setRow g cs)) : wpList P ops Q (o :: rest) a w :=
  wpList_plain hgd fun _ hK => wp_store_row ty x y ho g hx cs hy old hg hi hs h1 (hK _ _ h)
theorem tab_size' (k : Nat) : (Tryz.prog.info? 95).map (·.size) = some (tabC k).size := by rw [tabC_size]; exact tab_size
theorem tabC_sizes (j k : Nat) : (tabC j).size = (tabC k).size := by rw [tabC_size, tabC_size]
theorem tabC_one (k : Nat) : (tabC k).all (·.oneCell') = true := by
  rw [Array.all_eq_true]
  intro i hi
  rw [tabC_size] at hi
  have h := tabC_at k i hi
  rw [Array.getElem?_eq_getElem (by rw [tabC_size]; exact hi)] at h
  injection h with h
  rw [h]
  split <;> rfl
theorem below_setRow {B : Nat} {a w : World} (h : Below B a w) {g : Nat} (hg : B ≤ g) (cs : Array Value) : Below B a (w.setRow g cs) :=
  h.trans ⟨rfl, rfl, rfl, by simp, fun k hk => setRow_other w g k cs (by omega)⟩

set_option maxRecDepth 20000 in
set_option maxHeartbeats 1000000 in
theorem make_any (w : World) : Calls Tryz.prog 45 #[] w fun e w' => e = .returned (.agg (tabC 256)) ∧ Below w.heap.size w w' := by
  have z := (zero_of_info tab_zero).1
  go_enter Tryz.func45, Tryz.ntmps45
  go_wp2
  clear z
  go_loopw [5] (fun i wr => ∃ k : Nat, k ≤ 256 ∧ i = .int .i64 k ∧ Below w.heap.size w wr ∧ wr.heap[w.heap.size]? = some (.cells (tabC 0) 95 (0, 0)) ∧ wr.heap[w.heap.size + 1]? = some (.cells (tabC k) 95 (0, 0))) (fun i _ => 256 - (intOf i).toNat)
  case atStart => exact ⟨0, by omega, rfl, by go_grown, by rw [Below.heap_alloc _ _ _ (by simp)]; exact heap_alloc_last _ _, by have := heap_alloc_last (w.alloc (.cells (tabC 0) 95)) (.cells (tabC 0) 95); rwa [World.size_alloc] at this⟩
  case round =>
    obtain ⟨k, hk, rfl, hb, hr, ht⟩ := hrel
    by_cases hlt : k < 256
    · have hcell := cell_of_block ht k
      rw [tabC_at k k hlt, if_neg (Nat.lt_irrefl k)] at hcell
      have hfr := frozen_of_block ht k
      have hr' := hide hr
      have ht' := hide ht
      clear hr ht
      go_wp2
      have e0 : Value.int .u32 ((k : Int) * 16777216) = .int .u32 (tnN 0 k : Int) := by rw [tnN_0 k hlt]; exact congrArg _ (by omega)
      rw [e0]
      clear e0
      obtain ⟨wo, rfl⟩ : ∃ wo : World, wo = wr := ⟨_, rfl⟩
      go_loop [3, 11] (fun s i => ∃ j : Nat, j ≤ 8 ∧ i = .int .i64 j ∧ s = .int .u32 (tnN j k : Int)) (fun _ i => 8 - (intOf i).toNat)
      case atStart => exact ⟨0, by omega, rfl, rfl⟩
      case round =>
        obtain ⟨j, hj, rfl, rfl⟩ := hrel
        by_cases hlj : j < 8
        · go_wp2
          go_round
          case rel => exact ⟨j + 1, by omega, by go_num, congrArg (Value.int .u32) (round_tn j k)⟩
          case measure => simp [intOf]; omega
        · obtain rfl : j = 8 := by omega
          go_wp2
          go_roundw
          case rel =>
            refine ⟨k + 1, by omega, by go_num, hb.setCell (by simp) _, by rw [block_setCell_other (by omega)]; exact hr'.out, ?_⟩
            rw [block_setCell ht'.out, tnN_8, tabC_next k hlt]
          case measure => simp [intOf]; omega
    · obtain rfl : k = 256 := by omega
      have hr' := hide hr
      have ht' := hide ht
      clear hr ht
      go_wp2_with (first | (refine wpList_load_row rfl 95 (.tmp 1) rfl (w.heap.size + 1) rfl 95 (tabC 256) (0, 0) (.array 256 93) ht'.out Tryz.underlying95 rfl (tab_size' 256) ?_) | (refine wpList_store_row rfl 95 (.tmp 0) (.tmp 25) rfl w.heap.size rfl (tabC 256) rfl (tabC 0) hr'.out (tab_size' 256) (tabC_sizes 0 256) (tabC_one 256) ?_))
      exact bodyPost_ret (results_cell_row (P := Tryz.prog) rfl _ _ w.heap.size 95 (tabC 256) (0, 0) (.array 256 93) rfl (setRow_heap _ _ _ _ _ _ hr'.out) Tryz.underlying95 rfl (tab_size' 256)) rfl ⟨rfl, below_setRow hb (Nat.le_refl _) _⟩

/-- the table lies at an address -/
def TabAt (w : World) (b o : Nat) : Prop := ∀ k, k < 256 → w.cell? ⟨b, o + k, none⟩ = some (.int .u32 (tabN k : Int))
/-- the state behind some bytes, as a number -/
def mN (s : St) (l : List UInt8) : Nat := (moreS s l).toNat
theorem mN_lt (s : St) (l : List UInt8) : mN s l < 4294967296 := (moreS s l).isLt
/-- which place of the table a byte asks for -/
def pN (m x : Nat) : Nat := m / 16777216 ^^^ x
theorem pN_lt (m x : Nat) (hm : m < 4294967296) (hx : x < 256) : pN m x < 256 := Nat.xor_lt_two_pow (n := 8) (by omega) (by omega)
theorem mN_snoc (s : St) (l : List UInt8) (x : UInt8) : mN s (l ++ [x]) = (mN s l * 256 % 4294967296) ^^^ tabN (pN (mN s l) x.toNat) := by
  unfold mN pN
  rw [more_append]
  exact more_nat _ _
theorem pN_eq (m : Nat) (hm : m < 4294967296) (x : UInt8) : bits .xor .u8 ((m : Int) / 16777216) (x.toNat : Int) = (pN m x.toNat : Int) := by
  have hx := x.toNat_lt
  have e : (m : Int) / 16777216 = ((m / 16777216 : Nat) : Int) := by omega
  rw [e, u8_xor_nat _ _ (by omega) (by omega)]
  rfl
theorem mN_eq (m t : Nat) (ht : t < 4294967296) : bits .xor .u32 ((m : Int) * 256 % 4294967296) (t : Int) = ((m * 256 % 4294967296 ^^^ t : Nat) : Int) := by
  have e : (m : Int) * 256 % 4294967296 = ((m * 256 % 4294967296 : Nat) : Int) := by omega
  rw [e, u32_xor_nat _ _ (by omega) ht]
attribute [irreducible] mN pN
attribute [local irreducible] tabN

set_option maxRecDepth 20000 in
set_option maxHeartbeats 1000000 in
theorem more_any (b o : Nat) (s : St) (l : ByteArray) (hl : l.size ≤ 9223372036854775807) (w : World) (ht : TabAt w b o) :
    Calls Tryz.prog 105 #[.pointer (some ⟨b, o, none⟩), .int .u32 (s.toNat : Int), .string l] w fun e w' => e = .returned (.int .u32 (mN s l.data.toList : Int)) ∧ ∃ n, w' = w.drewN n := by
  have ht' := hide ht
  clear ht
  have e0 : Value.int .u32 (s.toNat : Int) = .int .u32 (mN s [] : Int) := by unfold mN; rfl
  rw [e0]
  clear e0
  go_enter Tryz.func105, Tryz.ntmps105
  go_wp2
  go_loopw [1, 13] (fun t i wr => ∃ j : Nat, j ≤ l.size ∧ i = .int .i64 j ∧ t = .int .u32 (mN s (l.data.toList.take j) : Int) ∧ ∃ n, wr = w.drewN n) (fun _ i _ => l.size - (intOf i).toNat)
  case atStart => exact ⟨0, by omega, rfl, rfl, 0, rfl⟩
  case round =>
    obtain ⟨j, hj, rfl, rfl, n, rfl⟩ := hrel
    by_cases hlt : j < l.size
    · have hm := mN_lt s (l.data.toList.take j)
      have hs := hide (show mN s (l.data.toList.take (j + 1)) = (mN s (l.data.toList.take j) * 256 % 4294967296) ^^^ tabN (pN (mN s (l.data.toList.take j)) (l[j]).toNat) by
        rw [List.take_succ_eq_append_getElem (by rw [size_list]; exact hlt), mN_snoc, getElem_list l j hlt])
      generalize mN s (l.data.toList.take j) = m at hm hs ⊢
      have hp := pN_lt m (l[j]).toNat hm (l[j]).toNat_lt
      have hx := pN_eq m hm l[j]
      have hc := ht'.out (pN m (l[j]).toNat) hp
      go_wp2
      go_quiet (fail)
      go_wp2
      go_roundw
      case rel => exact ⟨j + 1, by omega, by go_num, congrArg (Value.int .u32) (by rw [hs.out]; exact mN_eq m _ (tabN_lt _)), _, rfl⟩
      case measure => simp [intOf]; omega
    · obtain rfl : j = l.size := by omega
      have hT := hide (show mN s (l.data.toList.take l.size) = mN s l.data.toList by rw [List.take_of_length_le (Nat.le_of_eq (size_list l))])
      go_wp2
      go_ret
      exact ⟨by rw [← hT.out]; rfl, n, rfl⟩
theorem more_nil (s : Int) (l : ByteArray) (w : World) :
    Calls Tryz.prog 105 #[.pointer none, .int .u32 s, .string l] w fun e w' => e = .returned (.int .u32 s) ∧ w = w' := by
  go_enter Tryz.func105, Tryz.ntmps105
  go_wp2
  go_ret
  exact ⟨rfl, rfl⟩
theorem first_any (w : World) : Calls Tryz.prog 106 #[] w fun e w' => e = .returned (.int .u32 4294967295) ∧ w = w' := by
  go_enter Tryz.func106, Tryz.ntmps106
  go_wp2
  go_ret
  exact ⟨rfl, rfl⟩
theorem not32 (n : Int) (h0 : 0 ≤ n) (h1 : n ≤ 4294967295) : bits .xor .u32 IntKind.u32.max n = 4294967295 - n := by
  obtain ⟨n, rfl⟩ := Int.eq_ofNat_of_zero_le h0
  have hn : n < 4294967296 := by omega
  have e : (IntKind.u32.max : Int) = ((4294967295 : Nat) : Int) := rfl
  rw [e, u32_xor_nat _ _ (by omega) hn]
  have h : (4294967295 ^^^ n : Nat) = 4294967295 - n := by
    have hb : (~~~ (BitVec.ofNat 32 n)).toNat = 4294967295 - n := by rw [BitVec.toNat_not, BitVec.toNat_ofNat, Nat.mod_eq_of_lt hn]
    rw [← hb, ← BitVec.xor_allOnes, BitVec.toNat_xor, BitVec.toNat_ofNat, Nat.mod_eq_of_lt hn, Nat.xor_comm]
    rfl
  rw [h]
  omega
theorem last_any (n : Int) (h0 : 0 ≤ n) (h1 : n ≤ 4294967295) (w : World) : Calls Tryz.prog 104 #[.int .u32 n] w fun e w' => e = .returned (.int .u32 (4294967295 - n)) ∧ w = w' := by
  go_enter Tryz.func104, Tryz.ntmps104
  go_wp2
  go_ret
  exact ⟨ret_int (not32 n h0 h1), rfl⟩
/-- the check, as a number -/
def cN (l : List UInt8) : Nat := 4294967295 - mN firstS l
end Go.Proofs.YtjfmkfhjbdiojaaGreat

namespace Go.Proofs.YtjfmkfhjbdiojaaGreat
set_option linter.unusedSimpArgs false
set_option linter.unusedVariables false
open Go.RowKit

/-! plain -/
theorem xor_next (a b i : Nat) : (a ^^^ b) % 2 ^ (i + 1) = (a ^^^ b) % 2 ^ i + (if a / 2 ^ i % 2 = b / 2 ^ i % 2 then 0 else 2 ^ i) := by
  rw [Nat.mod_pow_succ]
  congr 1
  have h : ∀ x : Nat, x / 2 ^ i % 2 = (x.testBit i).toNat := by
    intro x
    rw [Nat.testBit_eq_decide_div_mod_eq]
    by_cases h : x / 2 ^ i % 2 = 1
    · simp [h]
    · have : x / 2 ^ i % 2 = 0 := by omega
      simp [this]
  rw [h, h, h, Nat.testBit_xor]
  cases a.testBit i <;> cases b.testBit i <;> simp
def xN (a b i : Nat) : Nat := (a ^^^ b) % 2 ^ i
theorem xN_0 (a b : Nat) : xN a b 0 = 0 := by simp [xN, Nat.mod_one]
theorem xN_lt (a b i : Nat) : xN a b i < 2 ^ i := Nat.mod_lt _ (Nat.pow_pos (by omega))
theorem xN_32 (a b : Nat) (ha : a < 4294967296) (hb : b < 4294967296) : xN a b 32 = a ^^^ b := by
  have h : a ^^^ b < 2 ^ 32 := Nat.xor_lt_two_pow (by omega) (by omega)
  exact Nat.mod_eq_of_lt h
theorem stepB_nat (s : St) (c : Bool) : (stepB s c).toNat = if s.toNat / 2147483648 = c.toNat then 2 * s.toNat % 4294967296 else (2 * s.toNat % 4294967296) ^^^ 79764919 := by
  have hs := s.isLt
  have e : stepB s c = (s <<< 1) ^^^ (if s.msb ^^ c then feed else 0#32) := by
    have hm : (s ^^^ top c).msb = (s.msb ^^ c) := by
      rw [BitVec.msb_xor]
      cases c
      · simp [top]
      · rw [show (top true).msb = true from by decide]
    have ht : (s ^^^ top c) <<< 1 = s <<< 1 := by
      rw [BitVec.shiftLeft_xor_distrib]
      cases c <;> simp [top]
    unfold stepB T
    rw [hm, ht]
  have hm : s.msb = decide (2147483648 ≤ s.toNat) := by rw [BitVec.msb_eq_decide]
  have e2 : (s <<< 1).toNat = 2 * s.toNat % 4294967296 := by rw [BitVec.toNat_shiftLeft, Nat.shiftLeft_eq]; congr 1; omega
  rw [e, BitVec.toNat_xor, e2, hm]
  by_cases h : 2147483648 ≤ s.toNat
  · rw [show s.toNat / 2147483648 = 1 by omega]; cases c <;> simp [h, feed]
  · rw [show s.toNat / 2147483648 = 0 by omega]; cases c <;> simp [h, feed]
theorem bit_of (x : UInt8) (j : Nat) (hj : j < 8) : x.toNat * 2 ^ j % 256 / 128 = ((bitsU x)[j]'(by simpa [bitsU] using hj)).toNat := by
  have h : ∀ (y : BitVec 8) (k : Fin 8), y.toNat * 2 ^ k.val % 256 / 128 = ((bitsU ⟨y⟩)[k.val]'(by simp [bitsU])).toNat := by decide +kernel
  exact h x.toBitVec ⟨j, hj⟩
def kS (s : St) (x : UInt8) (j : Nat) : St := stepsB s ((bitsU x).take j)
theorem kS_next (s : St) (x : UInt8) (j : Nat) (hj : j < 8) : kS s x (j + 1) = stepB (kS s x j) ((bitsU x)[j]'(by simpa [bitsU] using hj)) := by
  unfold kS
  rw [List.take_succ_eq_append_getElem (by simpa [bitsU] using hj), steps_append]
  rfl
theorem kS_8 (s : St) (x : UInt8) : kS s x 8 = moreS s [x] := by
  unfold kS moreS
  rw [List.take_of_length_le (by simp [bitsU])]
  simp [bitsL]
attribute [irreducible] xN kS
attribute [local irreducible] stepB

/-! walks -/
/-- the state behind j bits of a byte, as a number -/
def kN (s : St) (x : UInt8) (j : Nat) : Nat := (kS s x j).toNat
theorem kN_lt (s : St) (x : UInt8) (j : Nat) : kN s x j < 4294967296 := (kS s x j).isLt
theorem kN_0 (s : St) (x : UInt8) : kN s x 0 = s.toNat := by unfold kN kS; rfl
theorem kN_8 (s : St) (x : UInt8) : kN s x 8 = (moreS s [x]).toNat := by unfold kN; rw [kS_8]
/-- the byte, moved up by j bits -/
def upN (x : UInt8) (j : Nat) : Nat := x.toNat * 2 ^ j % 256
theorem upN_0 (x : UInt8) : upN x 0 = x.toNat := by unfold upN; have := x.toNat_lt; omega
theorem upN_lt (x : UInt8) (j : Nat) : upN x j < 256 := Nat.mod_lt _ (by omega)
theorem upN_next (x : UInt8) (j : Nat) : upN x (j + 1) = 2 * upN x j % 256 := by unfold upN; rw [Nat.pow_succ, ← Nat.mul_assoc]; omega
theorem mN_def (s : St) (l : List UInt8) : mN s l = (moreS s l).toNat := by unfold mN; rfl
/-- the state behind a part of a text -/
def sAt (s : St) (l : ByteArray) (j : Nat) : St := moreS s (l.data.toList.take j)
theorem sAt_next (s : St) (l : ByteArray) (j : Nat) (h : j < l.size) : moreS (sAt s l j) [l[j]] = sAt s l (j + 1) := by
  unfold sAt
  rw [List.take_succ_eq_append_getElem (by rw [size_list]; exact h), more_append, getElem_list l j h]
theorem sAt_end (s : St) (l : ByteArray) : sAt s l l.size = moreS s l.data.toList := by unfold sAt; rw [List.take_of_length_le (Nat.le_of_eq (size_list l))]
attribute [irreducible] sAt

end Go.Proofs.YtjfmkfhjbdiojaaGreat

namespace Go.Proofs.YtjfmkfhjbdiojaaGreat
set_option linter.unusedSimpArgs false
set_option linter.unusedVariables false
open Go.RowKit Go.WideShapes Go.ChangeShapes Go.ChangeAt

theorem tabAt_of_block {w : World} {b : Nat} {t : TypeId} {fr : Nat × Nat} (h : w.heap[b]? = some (.cells (tabC 256) t fr)) : TabAt w b 0 := by
  intro k hk
  rw [cell_of_block h, Nat.zero_add, tabC_at _ _ hk, if_pos hk]
theorem tabAt_below {B : Nat} {w w' : World} {b o : Nat} (h : TabAt w b o) (hb : Below B w w') (hlt : b < B) : TabAt w' b o := fun k hk => by
  rw [hb.cell (p := ⟨b, o + k, none⟩) hlt]; exact h k hk
theorem tabAt_lt {w : World} {b o : Nat} (h : TabAt w b o) : b < w.heap.size := World.block_lt_of_cell? w _ (h 0 (by omega))
theorem tabAt_kept {w w' : World} {b o : Nat} (h : TabAt w b o) (hb : Below w.heap.size w w') : TabAt w' b o := tabAt_below h hb (tabAt_lt h)
theorem tabAt_drewN {w : World} {b o : Nat} (h : TabAt w b o) (n : Nat) : TabAt (w.drewN n) b o := fun k hk => h k hk
theorem tabAt_drew {w : World} {b o : Nat} (h : TabAt w b o) : TabAt w.drew b o := fun k hk => h k hk
theorem below_drewN' {B : Nat} {a w : World} (h : Below B a w) (n : Nat) : Below B a (w.drewN n) := ⟨h.os, h.tape, h.output, h.size, h.block⟩
theorem more_int (b o : Nat) (t : Int) (t0 : 0 ≤ t) (t1 : t < 4294967296) (l : ByteArray) (hl : l.size ≤ 9223372036854775807) (w : World) (ht : TabAt w b o) :
    Calls Tryz.prog 105 #[.pointer (some ⟨b, o, none⟩), .int .u32 t, .string l] w fun e w' => e = .returned (.int .u32 (mN (BitVec.ofNat 32 t.toNat) l.data.toList : Int)) ∧ ∃ n, w' = w.drewN n := by
  have h := more_any b o (BitVec.ofNat 32 t.toNat) l hl w ht
  rwa [show (((BitVec.ofNat 32 t.toNat).toNat : Nat) : Int) = t by rw [BitVec.toNat_ofNat]; omega] at h
theorem cN_le (l : List UInt8) : cN l ≤ 4294967295 := Nat.sub_le _ _
theorem cN_wrap (l : List UInt8) : IntKind.u64.wrap (cN l : Int) = (cN l : Int) := by
  have := cN_le l
  exact wraps_u64 _ (by omega) (by omega)
theorem more_mN (b o : Nat) (x : List UInt8) (l : ByteArray) (hl : l.size ≤ 9223372036854775807) (w : World) (ht : TabAt w b o) :
    Calls Tryz.prog 105 #[.pointer (some ⟨b, o, none⟩), .int .u32 (mN firstS x : Int), .string l] w fun e w' => e = .returned (.int .u32 (mN firstS (x ++ l.data.toList) : Int)) ∧ ∃ n, w' = w.drewN n := by
  have h := more_any b o (moreS firstS x) l hl w ht
  unfold mN
  unfold mN at h
  rw [more_append]
  exact h
theorem more_first (b o : Nat) (l : ByteArray) (hl : l.size ≤ 9223372036854775807) (w : World) (ht : TabAt w b o) :
    Calls Tryz.prog 105 #[.pointer (some ⟨b, o, none⟩), .int .u32 4294967295, .string l] w fun e w' => e = .returned (.int .u32 (mN firstS l.data.toList : Int)) ∧ ∃ n, w' = w.drewN n := by
  have h := more_any b o firstS l hl w ht
  rwa [show ((firstS.toNat : Nat) : Int) = 4294967295 from rfl] at h
theorem tab_store (W : World) : (storeCells ⟨W.heap.size, 0, none⟩ (tabC 256).toList).run Tryz.prog (W.alloc (.cells (tabC 0) 95)) = .ok () (W.alloc (.cells (tabC 256) 95)) :=
  run_storeCells_new W _ _ _ (tab_size' 256) (tabC_sizes 0 256) (tabC_one 256)
theorem tabAt_new (W : World) : TabAt (W.alloc (.cells (tabC 256) 95)) W.heap.size 0 := tabAt_of_block (heap_alloc_last W _)
/-- the state tells the bytes: one byte another one is another state, and states that are unlike stay so -/
theorem more_inj (s s' : St) (l : List UInt8) (h : moreS s l = moreS s' l) : s = s' := by
  induction l generalizing s s' with
  | nil => exact h
  | cons x l ih =>
    rw [more_cons, more_cons s'] at h
    have h1 := ih _ _ h
    unfold moreS at h1
    rw [steps_word _ _ (by simp [bitsL, bitsU]), steps_word _ _ (by simp [bitsL, bitsU])] at h1
    have h2 := Tn_inj h1
    have h3 := congrArg (· ^^^ word 0 (bitsL [x])) h2
    simpa [BitVec.xor_assoc] using h3
theorem more_byte_inj (s : St) (x y : UInt8) (h : moreS s [x] = moreS s [y]) : x = y := by
  unfold moreS at h
  rw [show bitsL [x] = bitsU x by simp [bitsL], show bitsL [y] = bitsU y by simp [bitsL], steps_word _ _ (by simp [bitsU]), steps_word _ _ (by simp [bitsU]), bitsU_length, bitsU_length] at h
  have h2 := Tn_inj h
  have h3 := congrArg (s ^^^ ·) h2
  simp only [← BitVec.xor_assoc, BitVec.xor_self, BitVec.zero_xor, word_bitsU] at h3
  have h4 := congrArg BitVec.toNat h3
  rw [BitVec.toNat_shiftLeft, BitVec.toNat_shiftLeft, Nat.shiftLeft_eq, Nat.shiftLeft_eq, BitVec.zeroExtend_eq_setWidth, BitVec.zeroExtend_eq_setWidth, BitVec.toNat_setWidth, BitVec.toNat_setWidth] at h4
  have hx := x.toNat_lt
  have hy := y.toNat_lt
  apply UInt8.toNat_inj.1
  have ex : x.toBitVec.toNat = x.toNat := rfl
  have ey : y.toBitVec.toNat = y.toNat := rfl
  rw [ex, ey] at h4
  omega
theorem cN_one_other (a c : List UInt8) (x y : UInt8) (h : cN (a ++ x :: c) = cN (a ++ y :: c)) : x = y := by
  have h1 : ∀ l, mN firstS l ≤ 4294967295 := fun l => by have := mN_lt firstS l; omega
  have h2 : mN firstS (a ++ x :: c) = mN firstS (a ++ y :: c) := by
    have e1 := h1 (a ++ x :: c)
    have e2 := h1 (a ++ y :: c)
    unfold cN at h
    omega
  unfold mN at h2
  have h3 := BitVec.eq_of_toNat_eq h2
  rw [more_append, more_append, more_cons, more_cons _ y] at h3
  exact more_byte_inj _ _ _ (more_inj _ _ _ h3)
end Go.Proofs.YtjfmkfhjbdiojaaGreat

namespace Go.Proofs.YtjfmkfhjbdiojaaGreat
set_option linter.unusedSimpArgs false
set_option linter.unusedVariables false
open Go.RowKit

theorem strOfNums_bs (l : List UInt8) : strOfNums (l.map fun b => (b.toNat : Int)) = bs l := by
  simp [strOfNums, bs, List.map_map, Function.comp_def]

/-- string(b) of bytes that are known -/
theorem conv_bytes (w : World) (b off len cap : Nat) (l : List UInt8) (hl : l.length = len)
    (hc : ∀ i, i < len → w.cell? ⟨b, off + i, none⟩ = some (.int .u8 ((l.getD i 0).toNat : Int))) :
    (convert 22 9 (.slice (some ⟨b, off, none⟩) len cap)).run Tryz.prog w = .ok (.string (bs l)) w := by
  rw [run_convert_bytes_arg (P := Tryz.prog) w 22 5 Tryz.underlying22 Tryz.underlying5 b off len cap (l.map fun b => (b.toNat : Int)) (by simpa using hl) (fun i hi => by rw [hc i hi]; simp [List.getD, hl, hi]) 9 Tryz.underlying9, strOfNums_bs]

/-- string([]byte{b}) -/
theorem one_byte (w : World) (q : Nat) : (convert 22 9 (.slice (some ⟨w.heap.size, 0, none⟩) 1 1)).run Tryz.prog (w.alloc (.cells #[.int .u8 ((q : Int) % 256)] 5)) = .ok (.string (bs [UInt8.ofNat (q % 256)])) (w.alloc (.cells #[.int .u8 ((q : Int) % 256)] 5)) := by
  refine conv_bytes _ _ _ _ _ [UInt8.ofNat (q % 256)] rfl (fun i hi => ?_)
  obtain rfl : i = 0 := by omega
  rw [World.cell?_alloc_new]
  simp
theorem right_yes (n : Int) (w : World) (h1 : 1 ≤ n) (h8 : n ≤ 8) :
    Calls Tryz.prog 127 #[.int .i64 n] w fun e w' => e = .returned (.bool true) ∧ w = w' := by
  go_enter Tryz.func127, Tryz.ntmps127
  go_wp2
  go_ret
  exact ⟨rfl, rfl⟩
theorem right_no (n : Int) (w : World) (h : n < 1 ∨ 8 < n) :
    Calls Tryz.prog 127 #[.int .i64 n] w fun e w' => e = .returned (.bool false) ∧ w = w' := by
  rcases h with h | h
  · go_enter Tryz.func127, Tryz.ntmps127
    go_wp2
    go_ret
    exact ⟨rfl, rfl⟩
  · have h1 : 1 ≤ n := by omega
    have h2 : decide (n ≤ 8) = false := decide_eq_false (by omega)
    go_enter Tryz.func127, Tryz.ntmps127
    go_wp2
    go_ret
    exact ⟨rfl, rfl⟩

/-- what the array of be.Put holds -/
def arr8 (n : Nat) : List Value := (putL n 8).map fun b => Value.int .u8 (b.toNat : Int)
theorem arr8_eq (n : Nat) (hn : n < 18446744073709551616) :
    #[Value.int IntKind.u8 ((n : Int) / 72057594037927936), Value.int IntKind.u8 ((n : Int) / 281474976710656 % 256), Value.int IntKind.u8 ((n : Int) / 1099511627776 % 256), Value.int IntKind.u8 ((n : Int) / 4294967296 % 256),
      Value.int IntKind.u8 ((n : Int) / 16777216 % 256), Value.int IntKind.u8 ((n : Int) / 65536 % 256), Value.int IntKind.u8 ((n : Int) / 256 % 256), Value.int IntKind.u8 ((n : Int) % 256)] = (arr8 n).toArray := by
  simp only [arr8, putL, List.nil_append, List.cons_append, List.map_cons, List.map_nil]
  simp only [Nat.div_div_eq_div_mul, Nat.reduceMul]
  congr 8 <;> first | (simp; omega) | skip
  all_goals (congr 1; simp; try omega)
theorem arr8_at (n wd i : Nat) (hw : wd ≤ 8) (hi : i < wd) : (arr8 n).toArray[8 - wd + i]? = some (Value.int .u8 (((putL n wd).getD i 0).toNat : Int)) := by
  have h := putL_add wd (8 - wd) n
  rw [show 8 - wd + wd = 8 by omega] at h
  simp only [arr8, h, List.getElem?_toArray, List.map_append]
  rw [List.getElem?_append_right (by simp)]
  simp [List.getD, hi]

set_option maxRecDepth 100000 in
set_option maxHeartbeats 1000000 in
theorem put_yes (n : Int) (h0 : 0 ≤ n) (hn : n < 18446744073709551616) (wd : Int) (h1 : 1 ≤ wd) (h8 : wd ≤ 8) (w : World) :
    Calls Tryz.prog 103 #[.int .u64 n, .int .i64 wd] w fun e w' => e = .returned (.string (bs (putL n.toNat wd.toNat))) ∧ Below w.heap.size w w' := by
  obtain ⟨n, rfl⟩ := Int.eq_ofNat_of_zero_le h0
  simp only [Int.toNat_natCast]
  have e0 : 0 ≤ 8 - wd := by omega
  have e1 : 8 - wd ≤ 8 := by omega
  have hn' : n < 18446744073709551616 := by omega
  go_enter Tryz.func103, Tryz.ntmps103
  go_wp2_with (go_at_call 127; refine (right_yes _ _ (by omega) (by omega)).mono ?_; rintro e w' ⟨rfl, rfl⟩)
  go_rounds 9
  rw [arr8_eq n hn', conv_bytes _ _ _ _ _ (putL n wd.toNat) (by simp; omega) (fun i hi => by
    rw [World.cell?_alloc_new, show (8 - wd).toNat = 8 - wd.toNat by omega]
    exact arr8_at n wd.toNat i (by omega) (by omega))]
  go_wp2
  go_ret
  exact ⟨rfl, by go_grown⟩

theorem put_no (n : Int) (wd : Int) (h : wd < 1 ∨ 8 < wd) (w : World) :
    Calls Tryz.prog 103 #[.int .u64 n, .int .i64 wd] w fun e w' => e = .returned (.string (bs [])) ∧ w = w' := by
  go_enter Tryz.func103, Tryz.ntmps103
  go_wp2_with (go_at_call 127; refine (right_no _ _ h).mono ?_; rintro e w' ⟨rfl, rfl⟩)
  go_ret
  exact ⟨rfl, rfl⟩

/-- what the array of be.Get holds behind k rounds -/
def got8 (l : List UInt8) (k : Nat) : Array Value := ((List.replicate (8 - k) 0 ++ l.drop (l.length - k)).map fun (b : UInt8) => Value.int .u8 (b.toNat : Int)).toArray
theorem got8_zero (l : List UInt8) : got8 l 0 = #[.int .u8 0, .int .u8 0, .int .u8 0, .int .u8 0, .int .u8 0, .int .u8 0, .int .u8 0, .int .u8 0] := by simp [got8, List.replicate]
theorem got8_size (l : List UInt8) (k : Nat) (h : k ≤ 8) (hl : k ≤ l.length) : (got8 l k).size = 8 := by simp [got8]; omega
theorem got8_at (l : List UInt8) (k : Nat) (h : k < 8) (_hl : k < l.length) : (got8 l k)[7 - k]? = some (.int .u8 0) := by
  simp only [got8, List.getElem?_toArray, List.getElem?_map]
  rw [List.getElem?_append_left (by simp; omega)]
  simp [List.getElem?_replicate]
  omega
theorem got8_next (l : List UInt8) (k : Nat) (h : k < 8) (hl : k < l.length) : (got8 l k).setIfInBounds (7 - k) (.int .u8 ((l[l.length - 1 - k]'(by omega)).toNat : Int)) = got8 l (k + 1) := by
  have e : List.replicate (8 - k) (0 : UInt8) = List.replicate (7 - k) 0 ++ [0] := by
    rw [show 8 - k = (7 - k) + 1 by omega, List.replicate_succ']
  have e2 : l.drop (l.length - (k + 1)) = l[l.length - 1 - k]'(by omega) :: l.drop (l.length - k) := by
    rw [List.drop_eq_getElem_cons (by omega)]
    congr 2 <;> omega
  simp only [got8, e, e2, List.setIfInBounds_toArray, List.map_append, List.append_assoc, List.map_cons, List.map_nil, List.map_replicate]
  rw [List.set_append_right _ _ (by simp)]
  simp [show 8 - (k + 1) = 7 - k by omega]

theorem idx8_0 (x0 x1 x2 x3 x4 x5 x6 x7 : Value) (w : World) : (Instr.index 209 (.agg #[x0, x1, x2, x3, x4, x5, x6, x7]) (.int .i64 0)).run Tryz.prog w = .ok x0 w := by kernel_rfl
theorem idx8_1 (x0 x1 x2 x3 x4 x5 x6 x7 : Value) (w : World) : (Instr.index 209 (.agg #[x0, x1, x2, x3, x4, x5, x6, x7]) (.int .i64 1)).run Tryz.prog w = .ok x1 w := by kernel_rfl
theorem idx8_2 (x0 x1 x2 x3 x4 x5 x6 x7 : Value) (w : World) : (Instr.index 209 (.agg #[x0, x1, x2, x3, x4, x5, x6, x7]) (.int .i64 2)).run Tryz.prog w = .ok x2 w := by kernel_rfl
theorem idx8_3 (x0 x1 x2 x3 x4 x5 x6 x7 : Value) (w : World) : (Instr.index 209 (.agg #[x0, x1, x2, x3, x4, x5, x6, x7]) (.int .i64 3)).run Tryz.prog w = .ok x3 w := by kernel_rfl
theorem idx8_4 (x0 x1 x2 x3 x4 x5 x6 x7 : Value) (w : World) : (Instr.index 209 (.agg #[x0, x1, x2, x3, x4, x5, x6, x7]) (.int .i64 4)).run Tryz.prog w = .ok x4 w := by kernel_rfl
theorem idx8_5 (x0 x1 x2 x3 x4 x5 x6 x7 : Value) (w : World) : (Instr.index 209 (.agg #[x0, x1, x2, x3, x4, x5, x6, x7]) (.int .i64 5)).run Tryz.prog w = .ok x5 w := by kernel_rfl
theorem idx8_6 (x0 x1 x2 x3 x4 x5 x6 x7 : Value) (w : World) : (Instr.index 209 (.agg #[x0, x1, x2, x3, x4, x5, x6, x7]) (.int .i64 6)).run Tryz.prog w = .ok x6 w := by kernel_rfl
theorem idx8_7 (x0 x1 x2 x3 x4 x5 x6 x7 : Value) (w : World) : (Instr.index 209 (.agg #[x0, x1, x2, x3, x4, x5, x6, x7]) (.int .i64 7)).run Tryz.prog w = .ok x7 w := by kernel_rfl

/-- an array of eight bytes, by value -/
def vs8 (x0 x1 x2 x3 x4 x5 x6 x7 : UInt8) : Array Value := #[.int .u8 (x0.toNat : Int), .int .u8 (x1.toNat : Int), .int .u8 (x2.toNat : Int), .int .u8 (x3.toNat : Int), .int .u8 (x4.toNat : Int), .int .u8 (x5.toNat : Int), .int .u8 (x6.toNat : Int), .int .u8 (x7.toNat : Int)]
theorem idx8_any (x0 x1 x2 x3 x4 x5 x6 x7 : UInt8) (k : Nat) (h : k < 8) (w : World) :
    (Instr.index 209 (.agg #[.int .u8 (x0.toNat : Int), .int .u8 (x1.toNat : Int), .int .u8 (x2.toNat : Int), .int .u8 (x3.toNat : Int), .int .u8 (x4.toNat : Int), .int .u8 (x5.toNat : Int), .int .u8 (x6.toNat : Int), .int .u8 (x7.toNat : Int)]) (.int .i64 (k : Int))).run Tryz.prog w =
      .ok (.int .u8 (([x0, x1, x2, x3, x4, x5, x6, x7].getD k 0).toNat : Int)) w := by
  match k, h with
  | 0, _ => exact idx8_0 ..
  | 1, _ => exact idx8_1 ..
  | 2, _ => exact idx8_2 ..
  | 3, _ => exact idx8_3 ..
  | 4, _ => exact idx8_4 ..
  | 5, _ => exact idx8_5 ..
  | 6, _ => exact idx8_6 ..
  | 7, _ => exact idx8_7 ..

theorem got8_vs (l : List UInt8) (k : Nat) (h : k ≤ 8) (hl : k ≤ l.length) : ∃ x0 x1 x2 x3 x4 x5 x6 x7 : UInt8, List.replicate (8 - k) 0 ++ l.drop (l.length - k) = [x0, x1, x2, x3, x4, x5, x6, x7] ∧
    got8 l k = #[.int .u8 (x0.toNat : Int), .int .u8 (x1.toNat : Int), .int .u8 (x2.toNat : Int), .int .u8 (x3.toNat : Int), .int .u8 (x4.toNat : Int), .int .u8 (x5.toNat : Int), .int .u8 (x6.toNat : Int), .int .u8 (x7.toNat : Int)] := by
  have hn : (List.replicate (8 - k) (0 : UInt8) ++ l.drop (l.length - k)).length = 8 := by simp; omega
  unfold got8
  generalize List.replicate (8 - k) (0 : UInt8) ++ l.drop (l.length - k) = L at hn
  match L, hn with
  | [x0, x1, x2, x3, x4, x5, x6, x7], _ => exact ⟨x0, x1, x2, x3, x4, x5, x6, x7, rfl, rfl⟩

theorem or256 (n : Nat) (x : UInt8) (hn : n < 72057594037927936) : bits .or .u64 ((n : Int) * 256) (x.toNat : Int) = (n : Int) * 256 + (x.toNat : Int) := by
  have hx := x.toNat_lt
  exact bits_join .u64 64 (by decide) wraps_u64 8 _ _ (by omega) (by omega) (by omega) (by omega) (by omega) (by omega)

theorem get_step (X : List UInt8) (j : Nat) (hj : j < X.length) (h8 : X.length ≤ 8) :
    bits .or .u64 (IntKind.u64.wrap ((getN (X.take j) : Int) * 256)) (IntKind.u64.wrap ((X[j]).toNat : Int)) = (getN (X.take (j + 1)) : Int) := by
  have h1 := getN_lt (X.take j)
  have h2 : 256 ^ (X.take j).length ≤ 256 ^ 7 := Nat.pow_le_pow_right (by omega) (by simp; omega)
  have h3 : (256 : Nat) ^ 7 = 72057594037927936 := by decide
  have hx := X[j].toNat_lt
  rw [wraps_u64 _ (by omega) (by omega), wraps_u64 _ (by omega) (by omega), or256 _ _ (by omega), List.take_succ_eq_append_getElem hj, getN_snoc]
  omega

set_option maxHeartbeats 1000000 in
theorem get_any (s : ByteArray) (hs : s.size ≤ 9223372036854775807) (w : World) :
    Calls Tryz.prog 123 #[.string s] w fun e w' => e = .returned (.int .u64 (getN (last8 s.data.toList) : Int)) ∧ Below w.heap.size w w' := by
  have hl : s.data.toList.length = s.size := Array.length_toList
  by_cases hbig : 8 < s.size
  all_goals
    go_enter Tryz.func123, Tryz.ntmps123
    go_wp2
    go_loopw [11] (fun i wr => ∃ k : Nat, k ≤ 8 ∧ k ≤ s.size ∧ i = .int .i64 k ∧ wr = w.alloc (.cells (got8 s.data.toList k) 209)) (fun i _ => 8 - (intOf i).toNat)
    case atStart => exact ⟨0, by omega, by omega, rfl, by rw [got8_zero]⟩
    case round =>
      obtain ⟨k, hk, hks, rfl, rfl⟩ := hrel
      by_cases hlt : k < 8 ∧ k < s.size
      · obtain ⟨hk8, hkl⟩ := hlt
        have hcell := got8_at s.data.toList k hk8 (by omega)
        have hnext := hide (got8_next s.data.toList k hk8 (by omega))
        go_wp2
        go_roundw
        case rel =>
          refine ⟨k + 1, by omega, by omega, by go_num, ?_⟩
          rw [← hnext.out]
          simp [hl]
          rfl
        case measure => simp [intOf]; omega
      · obtain ⟨x0, x1, x2, x3, x4, x5, x6, x7, hx, hg⟩ := got8_vs s.data.toList k hk (by omega)
        have hend := hide (show getN (last8 s.data.toList) = getN [x0, x1, x2, x3, x4, x5, x6, x7] by
          rw [← hx, getN_zeros]
          unfold last8
          rw [hl]
          congr 2
          omega)
        have hxl := hide (show [x0, x1, x2, x3, x4, x5, x6, x7].length = 8 from rfl)
        rw [hg]
        clear hx hg
        go_wp2
        go_loop [5, 26] (fun n i => ∃ j : Nat, j ≤ 8 ∧ i = .int .i64 j ∧ n = .int .u64 (getN ([x0, x1, x2, x3, x4, x5, x6, x7].take j) : Int)) (fun _ i => 8 - (intOf i).toNat)
        case atStart => exact ⟨0, by omega, rfl, rfl⟩
        case round =>
          obtain ⟨j, hj, rfl, rfl⟩ := hrel
          by_cases hj8 : j < 8
          · have hidx := idx8_any x0 x1 x2 x3 x4 x5 x6 x7 j hj8
            go_wp2
            go_round
            case rel => exact ⟨j + 1, by omega, by go_num, congrArg (Value.int .u64) (get_step [x0, x1, x2, x3, x4, x5, x6, x7] j hj8 (by simp))⟩
            case measure => simp [intOf]; omega
          · obtain rfl : j = 8 := by omega
            go_wp2
            go_ret
            exact ⟨by rw [hend.out]; rfl, by go_grown⟩

theorem fits_yes (n : Int) (h0 : 0 ≤ n) (wd : Int) (h1 : 1 ≤ wd) (h8 : wd ≤ 8) (w : World) :
    Calls Tryz.prog 125 #[.int .u64 n, .int .i64 wd] w fun e w' => e = .returned (.bool (fitsB n.toNat wd)) ∧ w = w' := by
  have e0 : 0 ≤ 8 * wd := by omega
  have hf := hide (show (n / 2 ^ (8 * wd).toNat == 0) = fitsB n.toNat wd by
    obtain ⟨n, rfl⟩ := Int.eq_ofNat_of_zero_le h0
    obtain ⟨d, rfl⟩ := Int.eq_ofNat_of_zero_le (show 0 ≤ wd by omega)
    have e1 : (8 * (d : Int)).toNat = 8 * d := by omega
    have e2 : (n : Int) / 2 ^ (8 * d) = ((n / 2 ^ (8 * d) : Nat) : Int) := by push_cast; rfl
    have e3 : 2 ^ (8 * d) = 256 ^ d := by rw [Nat.pow_mul]
    have hp : 0 < 256 ^ d := Nat.pow_pos (by omega)
    rw [e1, e2, e3, Bool.eq_iff_iff]
    simp only [fitsB, Int.toNat_natCast, beq_iff_eq, decide_eq_true_eq]
    constructor
    · intro h
      refine ⟨h1, h8, ?_⟩
      have h' : n / 256 ^ d = 0 := by omega
      exact Nat.lt_of_div_eq_zero hp h'
    · intro h
      rw [Nat.div_eq_of_lt h.2.2]
      rfl)
  go_enter Tryz.func125, Tryz.ntmps125
  go_wp2_with (go_at_call 127; refine (right_yes _ _ h1 h8).mono ?_; rintro e w' ⟨rfl, rfl⟩)
  go_ret
  exact ⟨by rw [← hf.out]; rfl, rfl⟩
theorem fits_no (n : Int) (wd : Int) (h : wd < 1 ∨ 8 < wd) (w : World) :
    Calls Tryz.prog 125 #[.int .u64 n, .int .i64 wd] w fun e w' => e = .returned (.bool (fitsB n.toNat wd)) ∧ w = w' := by
  have hf := hide (show fitsB n.toNat wd = false from decide_eq_false (by omega))
  go_enter Tryz.func125, Tryz.ntmps125
  go_wp2_with (go_at_call 127; refine (right_no _ _ h).mono ?_; rintro e w' ⟨rfl, rfl⟩)
  go_ret
  exact ⟨by rw [hf.out]; rfl, rfl⟩
theorem fits_any (n : Int) (h0 : 0 ≤ n) (wd : Int) (w : World) :
    Calls Tryz.prog 125 #[.int .u64 n, .int .i64 wd] w fun e w' => e = .returned (.bool (fitsB n.toNat wd)) ∧ w = w' := by
  by_cases h : 1 ≤ wd ∧ wd ≤ 8
  · exact fits_yes n h0 wd h.1 h.2 w
  · exact fits_no n wd (by omega) w

/-- the bytes of a number in a width, if it is one -/
def putS (n : Int) (w : Int) : List UInt8 := if 1 ≤ w ∧ w ≤ 8 then putL n.toNat w.toNat else []
theorem put_any (n : Int) (h0 : 0 ≤ n) (hn : n ≤ 18446744073709551615) (wd : Int) (w : World) :
    Calls Tryz.prog 103 #[.int .u64 n, .int .i64 wd] w fun e w' => e = .returned (.string (bs (putS n wd))) ∧ Below w.heap.size w w' := by
  by_cases h : 1 ≤ wd ∧ wd ≤ 8
  · rw [putS, if_pos h]
    exact put_yes n h0 (by omega) wd h.1 h.2 w
  · rw [putS, if_neg h]
    exact (put_no n wd (by omega) w).mono fun e w' ⟨he, hw⟩ => ⟨he, hw ▸ Below.refl _ _⟩
end Go.Proofs.YtjfmkfhjbdiojaaGreat

namespace Go.Proofs.YtjfmkfhjbdiojaaGreat
set_option linter.unusedSimpArgs false
set_option linter.unusedVariables false
open Go.RowKit

/-- a reader lies at block r: what is left, and whether it is wrong -/
structure RdAt (w : World) (r : Nat) (s : ByteArray) (bad : Bool) : Prop where
  row : w.heap[r]? = some (.cells #[.string s, .bool bad] 204 (0, 0))
theorem RdAt.below {w w' : World} {r : Nat} {s : ByteArray} {bad : Bool} (h : RdAt w r s bad) (hb : Below w.heap.size w w') : RdAt w' r s bad := ⟨by rw [hb.block r (heap_lt h.row)]; exact h.row⟩
theorem RdAt.only {w w' : World} {r q : Nat} {s : ByteArray} {bad : Bool} (h : RdAt w r s bad) (hb : Only q w w') (hq : r ≠ q) : RdAt w' r s bad := ⟨by rw [hb.block r (heap_lt h.row) hq]; exact h.row⟩
theorem RdAt.cells {w : World} {r : Nat} {s : ByteArray} {bad : Bool} (h : RdAt w r s bad) : w.cell? ⟨r, 0, none⟩ = some (.string s) ∧ w.cell? ⟨r, 1, none⟩ = some (.bool bad) ∧ w.frozen? ⟨r, 0, none⟩ = false ∧ w.frozen? ⟨r, 1, none⟩ = false :=
  ⟨by rw [cell_of_block h.row]; rfl, by rw [cell_of_block h.row]; rfl, frozen_of_block h.row 0, frozen_of_block h.row 1⟩
theorem RdAt.setLeft {w : World} {r : Nat} {s : ByteArray} {bad : Bool} (h : RdAt w r s bad) (t : ByteArray) : RdAt (w.setCell ⟨r, 0, none⟩ (.string t)) r t bad := ⟨by rw [block_setCell h.row]; rfl⟩
theorem RdAt.setBad {w : World} {r : Nat} {s : ByteArray} {bad : Bool} (h : RdAt w r s bad) : RdAt (w.setCell ⟨r, 1, none⟩ (.bool true)) r s true := ⟨by rw [block_setCell h.row]; rfl⟩
theorem RdAt.new (w : World) (s : ByteArray) : RdAt (w.alloc (.cells #[.string s, .bool false] 204)) w.heap.size s false := ⟨heap_new _ _⟩

def noBytes : ByteArray := ⟨#[]⟩
/-- what is taken, what is left, and whether it is wrong -/
def rdTake (s : ByteArray) (bad : Bool) (n : Int) (ok : Bool) : ByteArray × ByteArray × Bool :=
  if bad = true then (⟨#[]⟩, s, true) else if ok = false ∨ (s.size : Int) < n then (⟨#[]⟩, s, true) else (s.extract 0 n.toNat, s.extract n.toNat s.size, false)

theorem read_any (s : ByteArray) (w : World) : Calls Tryz.prog 99 #[.string s] w fun e w' => e = .returned (.pointer (some ⟨w.heap.size, 0, none⟩)) ∧ RdAt w' w.heap.size s false ∧ Below w.heap.size w w' := by
  go_enter Tryz.func99, Tryz.ntmps99
  go_wp2
  go_ret
  exact ⟨rfl, RdAt.new w s, (Below.refl _ _).alloc (Nat.le_refl _) _⟩
def endE (s : ByteArray) (bad : Bool) : Int := if bad = true ∨ s.size ≠ 0 then 4 else 0
theorem take_any (r : Nat) (s : ByteArray) (bad : Bool) (n : Int) (ok : Bool) (hn : ok = true → 0 ≤ n) (w : World) (h : RdAt w r s bad) :
    Calls Tryz.prog 124 #[.pointer (some ⟨r, 0, none⟩), .int .i64 n, .bool ok] w fun e w' => e = .returned (.string (rdTake s bad n ok).1) ∧ RdAt w' r (rdTake s bad n ok).2.1 (rdTake s bad n ok).2.2 ∧ Only r w w' := by
  obtain ⟨c0, c1, f0, f1⟩ := h.cells
  have H := hide h
  clear h
  cases bad
  · by_cases hc : ok = false ∨ (s.size : Int) < n
    · have HZ := hide (show rdTake s false n ok = (⟨#[]⟩, s, true) by rw [rdTake, if_neg (by simp), if_pos hc])
      generalize rdTake s false n ok = z at *
      have HB := hide H.out.setBad
      cases ok
      · clear hc hn
        go_enter Tryz.func124, Tryz.ntmps124
        go_wp2
        go_ret
        rw [HZ.out]
        exact ⟨rfl, HB.out, Only.setCell _ _ _⟩
      · have hn' : 0 ≤ n := hn rfl
        have hlt : (s.size : Int) < n := by rcases hc with hc | hc; · cases hc
                                            · exact hc
        clear hc hn
        go_enter Tryz.func124, Tryz.ntmps124
        go_wp2
        go_ret
        rw [HZ.out]
        exact ⟨rfl, HB.out, Only.setCell _ _ _⟩
    · have hok : ok = true := by cases ok <;> simp at hc ⊢
      subst hok
      obtain ⟨m, rfl⟩ := Int.eq_ofNat_of_zero_le (hn rfl)
      have hm : m ≤ s.size := by omega
      have HZ := hide (show rdTake s false m true = (s.extract 0 m, s.extract m s.size, false) by rw [rdTake, if_neg (by simp), if_neg hc, Int.toNat_natCast])
      generalize rdTake s false m true = z at *
      have HB := hide (H.out.setLeft (s.extract m s.size))
      clear hc hn
      go_enter Tryz.func124, Tryz.ntmps124
      go_wp2
      go_ret
      rw [HZ.out]
      exact ⟨rfl, HB.out, Only.setCell _ _ _⟩
  · have HZ := hide (show rdTake s true n ok = (⟨#[]⟩, s, true) by rw [rdTake, if_pos rfl])
    generalize rdTake s true n ok = z at *
    go_enter Tryz.func124, Tryz.ntmps124
    go_wp2
    go_ret
    rw [HZ.out]
    exact ⟨rfl, H.out, Only.refl _ _⟩
theorem take_nil (n : Int) (ok : Bool) (w : World) : Calls Tryz.prog 124 #[.pointer none, .int .i64 n, .bool ok] w fun e w' => e = .returned (.string ⟨#[]⟩) ∧ w = w' := by
  go_enter Tryz.func124, Tryz.ntmps124
  go_wp2
  go_ret
  exact ⟨rfl, rfl⟩
theorem rdTake_size (s : ByteArray) (bad : Bool) (n : Int) (ok : Bool) : (rdTake s bad n ok).1.size ≤ s.size := by
  unfold rdTake
  split
  · exact Nat.zero_le _
  · split
    · exact Nat.zero_le _
    · simp; omega
theorem fits_zero (wd : Int) : fitsB (0 : Int).toNat wd = decide (1 ≤ wd ∧ wd ≤ 8) := by
  unfold fitsB
  rw [Bool.eq_iff_iff]
  simp only [decide_eq_true_eq]
  constructor
  · rintro ⟨h1, h2, _⟩; exact ⟨h1, h2⟩
  · rintro ⟨h1, h2⟩; exact ⟨h1, h2, pow256 _⟩
/-- a number's field -/
def rdNum (s : ByteArray) (bad : Bool) (wd : Int) : ByteArray × ByteArray × Bool := rdTake s bad wd (decide (1 ≤ wd ∧ wd ≤ 8))
theorem number_any (r : Nat) (s : ByteArray) (hs : s.size ≤ 9223372036854775807) (bad : Bool) (wd : Int) (w : World) (h : RdAt w r s bad) :
    Calls Tryz.prog 100 #[.pointer (some ⟨r, 0, none⟩), .int .i64 wd] w fun e w' => e = .returned (.int .u64 (getN (last8 (rdNum s bad wd).1.data.toList) : Int)) ∧ RdAt w' r (rdNum s bad wd).2.1 (rdNum s bad wd).2.2 ∧ Only r w w' := by
  have hf := fun W => fits_any 0 (by omega) wd W
  rw [fits_zero] at hf
  have ht := fun W (hh : RdAt W r s bad) => take_any r s bad wd (decide (1 ≤ wd ∧ wd ≤ 8)) (fun h => by have := of_decide_eq_true h; omega) W hh
  have hsz := rdTake_size s bad wd (decide (1 ≤ wd ∧ wd ≤ 8))
  show Calls _ _ _ _ (fun e w' => e = .returned (.int .u64 (getN (last8 (rdTake s bad wd (decide (1 ≤ wd ∧ wd ≤ 8))).1.data.toList) : Int)) ∧ RdAt w' r (rdTake s bad wd (decide (1 ≤ wd ∧ wd ≤ 8))).2.1 (rdTake s bad wd (decide (1 ≤ wd ∧ wd ≤ 8))).2.2 ∧ Only r w w')
  generalize rdTake s bad wd (decide (1 ≤ wd ∧ wd ≤ 8)) = z at *
  obtain ⟨a, b, c⟩ := z
  generalize decide (1 ≤ wd ∧ wd ≤ 8) = ok at *
  have HF := hide hf
  have HT := hide (ht w h)
  have HSZ := hide (show a.size ≤ 9223372036854775807 from Nat.le_trans hsz hs)
  clear hf ht h hsz
  go_enter Tryz.func100, Tryz.ntmps100
  go_wp2_with fail
  refine (HF.out _).mono ?_
  rintro e w1 ⟨rfl, rfl⟩
  go_wp2_with fail
  refine HT.out.mono ?_
  rintro e w2 ⟨rfl, hr, ho⟩
  have HR := hide hr
  have HO := hide ho
  clear hr ho
  go_wp2_with fail
  refine (get_any _ HSZ.out _).mono ?_
  rintro e w3 ⟨rfl, hb⟩
  go_wp2
  go_ret
  exact ⟨rfl, HR.out.below hb, HO.out.trans (Only.of_below hb)⟩
theorem number_nil (wd : Int) (w : World) : Calls Tryz.prog 100 #[.pointer none, .int .i64 wd] w fun e w' => e = .returned (.int .u64 0) ∧ Below w.heap.size w w' := by
  have hf := fun W => fits_any 0 (by omega) wd W
  have HF := hide hf
  clear hf
  go_enter Tryz.func100, Tryz.ntmps100
  go_wp2_with fail
  refine (HF.out _).mono ?_
  rintro e w1 ⟨rfl, rfl⟩
  go_wp2_with fail
  refine (take_nil _ _ _).mono ?_
  rintro e w2 ⟨rfl, rfl⟩
  go_wp2_with fail
  refine (get_any ⟨#[]⟩ (by decide) _).mono ?_
  rintro e w3 ⟨rfl, hb⟩
  go_wp2
  go_ret
  exact ⟨rfl, hb⟩
end Go.Proofs.YtjfmkfhjbdiojaaGreat
