/-
  Layer 1, the program's calls: be.Put, Get, Fits, Sign, Wide by contracts.
-/
import Derived.Test.YtbnbfnlfgmlcgaaKit
import Derived.Test.YtbnbfnlfgmlcgaaM1
namespace Go.Proofs.Ytbnbfnlfgmlcgaa
set_option linter.unusedSimpArgs false
set_option linter.unusedVariables false
open Go.RowKit

theorem strOfNums_bs (l : List UInt8) : strOfNums (l.map fun b => (b.toNat : Int)) = bs l := by
  simp [strOfNums, bs, List.map_map, Function.comp_def]

/-- string(b) of bytes that are known -/
theorem conv_bytes (w : World) (b off len cap : Nat) (l : List UInt8) (hl : l.length = len)
    (hc : ∀ i, i < len → w.cell? ⟨b, off + i, none⟩ = some (.int .u8 ((l.getD i 0).toNat : Int))) :
    (convert 44 9 (.slice (some ⟨b, off, none⟩) len cap)).run Try.prog w = .ok (.string (bs l)) w := by
  rw [run_convert_bytes_arg (P := Try.prog) w 44 5 Try.underlying44 Try.underlying5 b off len cap (l.map fun b => (b.toNat : Int)) (by simpa using hl) (fun i hi => by rw [hc i hi]; simp [List.getD, hl, hi]) 9 Try.underlying9, strOfNums_bs]

/-- string([]byte{b}) -/
theorem one_byte (w : World) (q : Nat) : (convert 44 9 (.slice (some ⟨w.heap.size, 0, none⟩) 1 1)).run Try.prog (w.alloc (.cells #[.int .u8 ((q : Int) % 256)] 5)) = .ok (.string (bs [UInt8.ofNat (q % 256)])) (w.alloc (.cells #[.int .u8 ((q : Int) % 256)] 5)) := by
  refine conv_bytes _ _ _ _ _ [UInt8.ofNat (q % 256)] rfl (fun i hi => ?_)
  obtain rfl : i = 0 := by omega
  rw [World.cell?_alloc_new]
  simp
theorem right_yes (n : Int) (w : World) (h1 : 1 ≤ n) (h8 : n ≤ 8) :
    Calls Try.prog 68 #[.int .i64 n] w fun e w' => e = .returned (.bool true) ∧ w = w' := by
  go_enter Try.func68, Try.ntmps68
  go_wp2
  go_ret
  exact ⟨rfl, rfl⟩
theorem right_no (n : Int) (w : World) (h : n < 1 ∨ 8 < n) :
    Calls Try.prog 68 #[.int .i64 n] w fun e w' => e = .returned (.bool false) ∧ w = w' := by
  rcases h with h | h
  · go_enter Try.func68, Try.ntmps68
    go_wp2
    go_ret
    exact ⟨rfl, rfl⟩
  · have h1 : 1 ≤ n := by omega
    have h2 : decide (n ≤ 8) = false := decide_eq_false (by omega)
    go_enter Try.func68, Try.ntmps68
    go_wp2
    go_ret
    exact ⟨rfl, rfl⟩

/-- what the array of be.Put holds -/
def arr8 (n : Nat) : List Value := (putL n 8).map fun b => Value.int .u8 (b.toNat : Int)
theorem arr8_eq (n : Nat) (hn : n < 18446744073709551616) :
    #[Value.int IntKind.u8 ((n : Int) / 72057594037927936), Value.int IntKind.u8 ((n : Int) / 281474976710656 % 256), Value.int IntKind.u8 ((n : Int) / 1099511627776 % 256), Value.int IntKind.u8 ((n : Int) / 4294967296 % 256),
      Value.int IntKind.u8 ((n : Int) / 16777216 % 256), Value.int IntKind.u8 ((n : Int) / 65536 % 256), Value.int IntKind.u8 ((n : Int) / 256 % 256), Value.int IntKind.u8 ((n : Int) % 256)] = (arr8 n).toArray := by
  simp only [arr8, putL, List.nil_append, List.cons_append, List.map_cons, List.map_nil]
  simp only [Nat.div_div_eq_div_mul, Nat.reduceMul]
  congr 8 <;> first | (simp; omega) | skip
  all_goals (congr 1; simp; try omega)
theorem arr8_at (n wd i : Nat) (hw : wd ≤ 8) (hi : i < wd) : (arr8 n).toArray[8 - wd + i]? = some (Value.int .u8 (((putL n wd).getD i 0).toNat : Int)) := by
  have h := putL_add wd (8 - wd) n
  rw [show 8 - wd + wd = 8 by omega] at h
  simp only [arr8, h, List.getElem?_toArray, List.map_append]
  rw [List.getElem?_append_right (by simp)]
  simp [List.getD, hi]

set_option maxRecDepth 100000 in
set_option maxHeartbeats 1000000 in
theorem put_yes (n : Int) (h0 : 0 ≤ n) (hn : n < 18446744073709551616) (wd : Int) (h1 : 1 ≤ wd) (h8 : wd ≤ 8) (w : World) :
    Calls Try.prog 60 #[.int .u64 n, .int .i64 wd] w fun e w' => e = .returned (.string (bs (putL n.toNat wd.toNat))) ∧ Below w.heap.size w w' := by
  obtain ⟨n, rfl⟩ := Int.eq_ofNat_of_zero_le h0
  simp only [Int.toNat_natCast]
  have e0 : 0 ≤ 8 - wd := by omega
  have e1 : 8 - wd ≤ 8 := by omega
  have hn' : n < 18446744073709551616 := by omega
  go_enter Try.func60, Try.ntmps60
  go_wp2_with (go_at_call 68; refine (right_yes _ _ (by omega) (by omega)).mono ?_; rintro e w' ⟨rfl, rfl⟩)
  go_rounds 9
  rw [arr8_eq n hn', conv_bytes _ _ _ _ _ (putL n wd.toNat) (by simp; omega) (fun i hi => by
    rw [World.cell?_alloc_new, show (8 - wd).toNat = 8 - wd.toNat by omega]
    exact arr8_at n wd.toNat i (by omega) (by omega))]
  go_wp2
  go_ret
  exact ⟨rfl, by go_grown⟩

theorem put_no (n : Int) (wd : Int) (h : wd < 1 ∨ 8 < wd) (w : World) :
    Calls Try.prog 60 #[.int .u64 n, .int .i64 wd] w fun e w' => e = .returned (.string (bs [])) ∧ w = w' := by
  go_enter Try.func60, Try.ntmps60
  go_wp2_with (go_at_call 68; refine (right_no _ _ h).mono ?_; rintro e w' ⟨rfl, rfl⟩)
  go_ret
  exact ⟨rfl, rfl⟩

/-- what the array of be.Get holds behind k rounds -/
def got8 (l : List UInt8) (k : Nat) : Array Value := ((List.replicate (8 - k) 0 ++ l.drop (l.length - k)).map fun (b : UInt8) => Value.int .u8 (b.toNat : Int)).toArray
theorem got8_zero (l : List UInt8) : got8 l 0 = #[.int .u8 0, .int .u8 0, .int .u8 0, .int .u8 0, .int .u8 0, .int .u8 0, .int .u8 0, .int .u8 0] := by simp [got8, List.replicate]
theorem got8_size (l : List UInt8) (k : Nat) (h : k ≤ 8) (hl : k ≤ l.length) : (got8 l k).size = 8 := by simp [got8]; omega
theorem got8_at (l : List UInt8) (k : Nat) (h : k < 8) (_hl : k < l.length) : (got8 l k)[7 - k]? = some (.int .u8 0) := by
  simp only [got8, List.getElem?_toArray, List.getElem?_map]
  rw [List.getElem?_append_left (by simp; omega)]
  simp [List.getElem?_replicate]
  omega
theorem got8_next (l : List UInt8) (k : Nat) (h : k < 8) (hl : k < l.length) : (got8 l k).setIfInBounds (7 - k) (.int .u8 ((l[l.length - 1 - k]'(by omega)).toNat : Int)) = got8 l (k + 1) := by
  have e : List.replicate (8 - k) (0 : UInt8) = List.replicate (7 - k) 0 ++ [0] := by
    rw [show 8 - k = (7 - k) + 1 by omega, List.replicate_succ']
  have e2 : l.drop (l.length - (k + 1)) = l[l.length - 1 - k]'(by omega) :: l.drop (l.length - k) := by
    rw [List.drop_eq_getElem_cons (by omega)]
    congr 2 <;> omega
  simp only [got8, e, e2, List.setIfInBounds_toArray, List.map_append, List.append_assoc, List.map_cons, List.map_nil, List.map_replicate]
  rw [List.set_append_right _ _ (by simp)]
  simp [show 8 - (k + 1) = 7 - k by omega]

theorem idx8_0 (x0 x1 x2 x3 x4 x5 x6 x7 : Value) (w : World) : (Instr.index 132 (.agg #[x0, x1, x2, x3, x4, x5, x6, x7]) (.int .i64 0)).run Try.prog w = .ok x0 w := by kernel_rfl
theorem idx8_1 (x0 x1 x2 x3 x4 x5 x6 x7 : Value) (w : World) : (Instr.index 132 (.agg #[x0, x1, x2, x3, x4, x5, x6, x7]) (.int .i64 1)).run Try.prog w = .ok x1 w := by kernel_rfl
theorem idx8_2 (x0 x1 x2 x3 x4 x5 x6 x7 : Value) (w : World) : (Instr.index 132 (.agg #[x0, x1, x2, x3, x4, x5, x6, x7]) (.int .i64 2)).run Try.prog w = .ok x2 w := by kernel_rfl
theorem idx8_3 (x0 x1 x2 x3 x4 x5 x6 x7 : Value) (w : World) : (Instr.index 132 (.agg #[x0, x1, x2, x3, x4, x5, x6, x7]) (.int .i64 3)).run Try.prog w = .ok x3 w := by kernel_rfl
theorem idx8_4 (x0 x1 x2 x3 x4 x5 x6 x7 : Value) (w : World) : (Instr.index 132 (.agg #[x0, x1, x2, x3, x4, x5, x6, x7]) (.int .i64 4)).run Try.prog w = .ok x4 w := by kernel_rfl
theorem idx8_5 (x0 x1 x2 x3 x4 x5 x6 x7 : Value) (w : World) : (Instr.index 132 (.agg #[x0, x1, x2, x3, x4, x5, x6, x7]) (.int .i64 5)).run Try.prog w = .ok x5 w := by kernel_rfl
theorem idx8_6 (x0 x1 x2 x3 x4 x5 x6 x7 : Value) (w : World) : (Instr.index 132 (.agg #[x0, x1, x2, x3, x4, x5, x6, x7]) (.int .i64 6)).run Try.prog w = .ok x6 w := by kernel_rfl
theorem idx8_7 (x0 x1 x2 x3 x4 x5 x6 x7 : Value) (w : World) : (Instr.index 132 (.agg #[x0, x1, x2, x3, x4, x5, x6, x7]) (.int .i64 7)).run Try.prog w = .ok x7 w := by kernel_rfl

/-- an array of eight bytes, by value -/
def vs8 (x0 x1 x2 x3 x4 x5 x6 x7 : UInt8) : Array Value := #[.int .u8 (x0.toNat : Int), .int .u8 (x1.toNat : Int), .int .u8 (x2.toNat : Int), .int .u8 (x3.toNat : Int), .int .u8 (x4.toNat : Int), .int .u8 (x5.toNat : Int), .int .u8 (x6.toNat : Int), .int .u8 (x7.toNat : Int)]
theorem idx8_any (x0 x1 x2 x3 x4 x5 x6 x7 : UInt8) (k : Nat) (h : k < 8) (w : World) :
    (Instr.index 132 (.agg #[.int .u8 (x0.toNat : Int), .int .u8 (x1.toNat : Int), .int .u8 (x2.toNat : Int), .int .u8 (x3.toNat : Int), .int .u8 (x4.toNat : Int), .int .u8 (x5.toNat : Int), .int .u8 (x6.toNat : Int), .int .u8 (x7.toNat : Int)]) (.int .i64 (k : Int))).run Try.prog w =
      .ok (.int .u8 (([x0, x1, x2, x3, x4, x5, x6, x7].getD k 0).toNat : Int)) w := by
  match k, h with
  | 0, _ => exact idx8_0 ..
  | 1, _ => exact idx8_1 ..
  | 2, _ => exact idx8_2 ..
  | 3, _ => exact idx8_3 ..
  | 4, _ => exact idx8_4 ..
  | 5, _ => exact idx8_5 ..
  | 6, _ => exact idx8_6 ..
  | 7, _ => exact idx8_7 ..

theorem got8_vs (l : List UInt8) (k : Nat) (h : k ≤ 8) (hl : k ≤ l.length) : ∃ x0 x1 x2 x3 x4 x5 x6 x7 : UInt8, List.replicate (8 - k) 0 ++ l.drop (l.length - k) = [x0, x1, x2, x3, x4, x5, x6, x7] ∧
    got8 l k = #[.int .u8 (x0.toNat : Int), .int .u8 (x1.toNat : Int), .int .u8 (x2.toNat : Int), .int .u8 (x3.toNat : Int), .int .u8 (x4.toNat : Int), .int .u8 (x5.toNat : Int), .int .u8 (x6.toNat : Int), .int .u8 (x7.toNat : Int)] := by
  have hn : (List.replicate (8 - k) (0 : UInt8) ++ l.drop (l.length - k)).length = 8 := by simp; omega
  unfold got8
  generalize List.replicate (8 - k) (0 : UInt8) ++ l.drop (l.length - k) = L at hn
  match L, hn with
  | [x0, x1, x2, x3, x4, x5, x6, x7], _ => exact ⟨x0, x1, x2, x3, x4, x5, x6, x7, rfl, rfl⟩

theorem or256 (n : Nat) (x : UInt8) (hn : n < 72057594037927936) : bits .or .u64 ((n : Int) * 256) (x.toNat : Int) = (n : Int) * 256 + (x.toNat : Int) := by
  have hx := x.toNat_lt
  exact bits_join .u64 64 (by decide) wraps_u64 8 _ _ (by omega) (by omega) (by omega) (by omega) (by omega) (by omega)

theorem get_step (X : List UInt8) (j : Nat) (hj : j < X.length) (h8 : X.length ≤ 8) :
    bits .or .u64 (IntKind.u64.wrap ((getN (X.take j) : Int) * 256)) (IntKind.u64.wrap ((X[j]).toNat : Int)) = (getN (X.take (j + 1)) : Int) := by
  have h1 := getN_lt (X.take j)
  have h2 : 256 ^ (X.take j).length ≤ 256 ^ 7 := Nat.pow_le_pow_right (by omega) (by simp; omega)
  have h3 : (256 : Nat) ^ 7 = 72057594037927936 := by decide
  have hx := X[j].toNat_lt
  rw [wraps_u64 _ (by omega) (by omega), wraps_u64 _ (by omega) (by omega), or256 _ _ (by omega), List.take_succ_eq_append_getElem hj, getN_snoc]
  omega

set_option maxHeartbeats 1000000 in
theorem get_any (s : ByteArray) (hs : s.size ≤ 9223372036854775807) (w : World) :
    Calls Try.prog 52 #[.string s] w fun e w' => e = .returned (.int .u64 (getN (last8 s.data.toList) : Int)) ∧ Below w.heap.size w w' := by
  have hl : s.data.toList.length = s.size := Array.length_toList
  by_cases hbig : 8 < s.size
  all_goals
    go_enter Try.func52, Try.ntmps52
    go_wp2
    go_loopw [11] (fun i wr => ∃ k : Nat, k ≤ 8 ∧ k ≤ s.size ∧ i = .int .i64 k ∧ wr = w.alloc (.cells (got8 s.data.toList k) 132)) (fun i _ => 8 - (intOf i).toNat)
    case atStart => exact ⟨0, by omega, by omega, rfl, by rw [got8_zero]⟩
    case round =>
      obtain ⟨k, hk, hks, rfl, rfl⟩ := hrel
      by_cases hlt : k < 8 ∧ k < s.size
      · obtain ⟨hk8, hkl⟩ := hlt
        have hcell := got8_at s.data.toList k hk8 (by omega)
        have hnext := hide (got8_next s.data.toList k hk8 (by omega))
        go_wp2
        go_roundw
        case rel =>
          refine ⟨k + 1, by omega, by omega, by go_num, ?_⟩
          rw [← hnext.out]
          simp [hl]
          rfl
        case measure => simp [intOf]; omega
      · obtain ⟨x0, x1, x2, x3, x4, x5, x6, x7, hx, hg⟩ := got8_vs s.data.toList k hk (by omega)
        have hend := hide (show getN (last8 s.data.toList) = getN [x0, x1, x2, x3, x4, x5, x6, x7] by
          rw [← hx, getN_zeros]
          unfold last8
          rw [hl]
          congr 2
          omega)
        have hxl := hide (show [x0, x1, x2, x3, x4, x5, x6, x7].length = 8 from rfl)
        rw [hg]
        clear hx hg
        go_wp2
        go_loop [5, 26] (fun n i => ∃ j : Nat, j ≤ 8 ∧ i = .int .i64 j ∧ n = .int .u64 (getN ([x0, x1, x2, x3, x4, x5, x6, x7].take j) : Int)) (fun _ i => 8 - (intOf i).toNat)
        case atStart => exact ⟨0, by omega, rfl, rfl⟩
        case round =>
          obtain ⟨j, hj, rfl, rfl⟩ := hrel
          by_cases hj8 : j < 8
          · have hidx := idx8_any x0 x1 x2 x3 x4 x5 x6 x7 j hj8
            go_wp2
            go_round
            case rel => exact ⟨j + 1, by omega, by go_num, congrArg (Value.int .u64) (get_step [x0, x1, x2, x3, x4, x5, x6, x7] j hj8 (by simp))⟩
            case measure => simp [intOf]; omega
          · obtain rfl : j = 8 := by omega
            go_wp2
            go_ret
            exact ⟨by rw [hend.out]; rfl, by go_grown⟩

theorem fits_yes (n : Int) (h0 : 0 ≤ n) (wd : Int) (h1 : 1 ≤ wd) (h8 : wd ≤ 8) (w : World) :
    Calls Try.prog 54 #[.int .u64 n, .int .i64 wd] w fun e w' => e = .returned (.bool (fitsB n.toNat wd)) ∧ w = w' := by
  have e0 : 0 ≤ 8 * wd := by omega
  have hf := hide (show (n / 2 ^ (8 * wd).toNat == 0) = fitsB n.toNat wd by
    obtain ⟨n, rfl⟩ := Int.eq_ofNat_of_zero_le h0
    obtain ⟨d, rfl⟩ := Int.eq_ofNat_of_zero_le (show 0 ≤ wd by omega)
    have e1 : (8 * (d : Int)).toNat = 8 * d := by omega
    have e2 : (n : Int) / 2 ^ (8 * d) = ((n / 2 ^ (8 * d) : Nat) : Int) := by push_cast; rfl
    have e3 : 2 ^ (8 * d) = 256 ^ d := by rw [Nat.pow_mul]
    have hp : 0 < 256 ^ d := Nat.pow_pos (by omega)
    rw [e1, e2, e3, Bool.eq_iff_iff]
    simp only [fitsB, Int.toNat_natCast, beq_iff_eq, decide_eq_true_eq]
    constructor
    · intro h
      refine ⟨h1, h8, ?_⟩
      have h' : n / 256 ^ d = 0 := by omega
      exact Nat.lt_of_div_eq_zero hp h'
    · intro h
      rw [Nat.div_eq_of_lt h.2.2]
      rfl)
  go_enter Try.func54, Try.ntmps54
  go_wp2_with (go_at_call 68; refine (right_yes _ _ h1 h8).mono ?_; rintro e w' ⟨rfl, rfl⟩)
  go_ret
  exact ⟨by rw [← hf.out]; rfl, rfl⟩
theorem fits_no (n : Int) (wd : Int) (h : wd < 1 ∨ 8 < wd) (w : World) :
    Calls Try.prog 54 #[.int .u64 n, .int .i64 wd] w fun e w' => e = .returned (.bool (fitsB n.toNat wd)) ∧ w = w' := by
  have hf := hide (show fitsB n.toNat wd = false from decide_eq_false (by omega))
  go_enter Try.func54, Try.ntmps54
  go_wp2_with (go_at_call 68; refine (right_no _ _ h).mono ?_; rintro e w' ⟨rfl, rfl⟩)
  go_ret
  exact ⟨by rw [hf.out]; rfl, rfl⟩
theorem fits_any (n : Int) (h0 : 0 ≤ n) (wd : Int) (w : World) :
    Calls Try.prog 54 #[.int .u64 n, .int .i64 wd] w fun e w' => e = .returned (.bool (fitsB n.toNat wd)) ∧ w = w' := by
  by_cases h : 1 ≤ wd ∧ wd ≤ 8
  · exact fits_yes n h0 wd h.1 h.2 w
  · exact fits_no n wd (by omega) w

/-- the bytes of a number in a width, if it is one -/
def putS (n : Int) (w : Int) : List UInt8 := if 1 ≤ w ∧ w ≤ 8 then putL n.toNat w.toNat else []
theorem put_any (n : Int) (h0 : 0 ≤ n) (hn : n ≤ 18446744073709551615) (wd : Int) (w : World) :
    Calls Try.prog 60 #[.int .u64 n, .int .i64 wd] w fun e w' => e = .returned (.string (bs (putS n wd))) ∧ Below w.heap.size w w' := by
  by_cases h : 1 ≤ wd ∧ wd ≤ 8
  · rw [putS, if_pos h]
    exact put_yes n h0 (by omega) wd h.1 h.2 w
  · rw [putS, if_neg h]
    exact (put_no n wd (by omega) w).mono fun e w' ⟨he, hw⟩ => ⟨he, hw ▸ Below.refl _ _⟩
end Go.Proofs.Ytbnbfnlfgmlcgaa
