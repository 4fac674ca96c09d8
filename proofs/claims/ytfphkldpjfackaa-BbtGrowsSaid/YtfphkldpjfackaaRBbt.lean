/-
  Layer 9: the document's Text by contract; 'same' by contract; Text of a size that may not be.
-/
import Derived.Test.YtfphkldpjfackaaLaw9c
import Derived.Test.YtfphkldpjfackaaRef1
namespace Go.Proofs.Ytfphkldpjfackaa
set_option linter.unusedSimpArgs false
set_option linter.unusedVariables false
open Go.RowKit Go.WideShapes Go.ChangeShapes Go.ChangeAt

/-- which blocks are bad, as a list of bools -/
def badC (n : Nat) (L : List UInt8) : Array Value := ((List.range n).map fun k => Value.bool (hasB L k)).toArray
theorem badC_size (n : Nat) (L : List UInt8) : (badC n L).size = n := by simp [badC]
theorem badC_at (n : Nat) (L : List UInt8) (k : Nat) (h : k < n) : (badC n L)[k]? = some (.bool (hasB L k)) := by simp [badC, h]
theorem badC_zero (n : Nat) : badC n zeros32 = (List.replicate n (Value.bool false)).toArray := by
  unfold badC
  rw [show (fun k => Value.bool (hasB zeros32 k)) = fun _ : Nat => Value.bool false from funext fun k => by rw [zeros_has]]
  show (List.map (Function.const _ (Value.bool false)) (List.range n)).toArray = _
  rw [List.map_const, List.length_range]
theorem badC_set (n : Nat) (L : List UInt8) (hL : L.length = 32) (hn : n ≤ 256) (k : Nat) (hk : k < n) : (badC n L).setIfInBounds k (.bool true) = badC n (withB L k) := by
  apply Array.ext
  · simp [badC]
  · intro i h1 h2
    simp only [badC_size, Array.size_setIfInBounds] at h1 h2
    rw [Array.getElem_setIfInBounds]
    have e1 : (badC n (withB L k))[i]'(by rw [badC_size]; exact h1) = .bool (hasB (withB L k) i) := by simp [badC]
    have e2 : (badC n L)[i]'(by rw [badC_size]; exact h1) = .bool (hasB L i) := by simp [badC]
    rw [e1, withB_has L k i (by omega)]
    by_cases h : k = i
    · subst h; simp
    · rw [if_neg h, e2, decide_eq_false (by omega), Bool.false_or]
    · rw [badC_size]; exact h1
theorem make_bad (n : Nat) (h : n ≤ 256) (W : World) : (Instr.makeSlice 31 (.int .i64 (n : Int)) (.int .i64 (n : Int))).run Try.prog W = .ok (.slice (some ⟨W.heap.size, 0, none⟩) n n) (W.alloc (.cells (badC n zeros32) 4)) := by
  have := run_make_rows (P := Try.prog) (k := 1) (B := 1) 31 4 (z := .bool false) [.bool false] Try.underlying31 (by kernel_rfl) rfl rfl (by omega) n (by omega) (by omega) W
  rw [this, badC_zero]
  congr 4
  simp [List.flatMap_replicate]
theorem bit_next (x r : Nat) (hr : r < 8) : x / 2 ^ (7 - r) = 2 * (x / 2 ^ (8 - r)) + (if x.testBit (7 - r) = true then 1 else 0) := by
  obtain ⟨m, hm⟩ : ∃ m, 7 - r = m := ⟨_, rfl⟩
  rw [show 8 - r = m + 1 by omega, hm, Nat.testBit_eq_decide_div_mod_eq, Nat.pow_succ, ← Nat.div_div_eq_div_mul]
  generalize x / 2 ^ m = y
  by_cases h : y % 2 = 1
  · rw [decide_eq_true h, if_pos rfl]; omega
  · rw [decide_eq_false h, if_neg (by simp)]; omega
/-- the bits of a byte so far -/
def soFar (L : List UInt8) (i : Nat) : Nat := (L.getD (i / 8) 0).toNat / 2 ^ (8 - i % 8)
theorem soFar_lt (L : List UInt8) (i : Nat) : soFar L i ≤ 127 := by
  unfold soFar
  have h : (L.getD (i / 8) 0).toNat < 256 := (L.getD (i / 8) 0).toNat_lt
  have h2 : 2 ≤ 2 ^ (8 - i % 8) := by
    have : i % 8 < 8 := Nat.mod_lt _ (by omega)
    calc 2 = 2 ^ 1 := rfl
      _ ≤ 2 ^ (8 - i % 8) := Nat.pow_le_pow_right (by omega) (by omega)
  have := Nat.div_le_div_left (a := (L.getD (i / 8) 0).toNat) h2 (by omega)
  omega
theorem soFar_next (L : List UInt8) (i : Nat) (h : ¬ i % 8 = 7) : soFar L (i + 1) = 2 * soFar L i + (if hasB L i = true then 1 else 0) := by
  unfold soFar hasB
  rw [show (i + 1) / 8 = i / 8 by omega, show 8 - (i + 1) % 8 = 7 - i % 8 by omega]
  exact bit_next _ _ (by omega)
theorem soFar_end (L : List UInt8) (i : Nat) (h : i % 8 = 7) : (L.getD (i / 8) 0).toNat = 2 * soFar L i + (if hasB L i = true then 1 else 0) := by
  have := bit_next (L.getD (i / 8) 0).toNat (i % 8) (by omega)
  unfold soFar hasB
  rw [show 7 - i % 8 = 0 by omega, Nat.pow_zero, Nat.div_one] at this
  rw [show 7 - i % 8 = 0 by omega]
  exact this
theorem soFar_zero (L : List UInt8) (i : Nat) (h : i % 8 = 0) : soFar L i = 0 := by
  unfold soFar
  have h : (L.getD (i / 8) 0).toNat < 256 := (L.getD (i / 8) 0).toNat_lt
  rw [show 8 - i % 8 = 8 by omega]
  exact Nat.div_eq_of_lt (by omega)
theorem take_next (L : List UInt8) (hL : L.length = 32) (i : Nat) (h : i % 8 = 7) (hi : i < 256) : L.take ((i + 1) / 8) = L.take (i / 8) ++ [L.getD (i / 8) 0] := by
  rw [show (i + 1) / 8 = i / 8 + 1 by omega, List.take_succ_eq_append_getElem (by omega)]
  congr 2
  simp [List.getD, hL, show i / 8 < 32 by omega]
theorem take_stay (L : List UInt8) (i : Nat) (h : ¬ i % 8 = 7) : L.take ((i + 1) / 8) = L.take (i / 8) := by rw [show (i + 1) / 8 = i / 8 by omega]
theorem one_byteQ (w : World) (q : Nat) (hq : q < 256) : (convert 39 9 (.slice (some ⟨w.heap.size, 0, none⟩) 1 1)).run Try.prog (w.alloc (.cells #[.int .u8 (q : Int)] 5)) = .ok (.string (bs [UInt8.ofNat q])) (w.alloc (.cells #[.int .u8 (q : Int)] 5)) := by
  have h := one_byte w q
  rw [Nat.mod_eq_of_lt hq, show (q : Int) % 256 = (q : Int) by omega] at h
  exact h
theorem badL_app (L : List UInt8) (k : Nat) : ∀ d : Nat, ∃ r, badL L (k + d) = badL L k ++ r
  | 0 => ⟨[], by simp⟩
  | d + 1 => by
    obtain ⟨r, h⟩ := badL_app L k d
    exact ⟨r ++ if hasB L (k + d) = true then [((k + d : Nat) : Int)] else [], by rw [← Nat.add_assoc, badL_next, h, List.append_assoc]⟩
theorem badL_find (L : List UInt8) (n k : Nat) (hk : k < n) (h : hasB L k = true) : (badL L k).length < (badL L n).length ∧ (badL L n).getD (badL L k).length 0 = (k : Int) := by
  obtain ⟨r, hr⟩ := badL_app L (k + 1) (n - (k + 1))
  rw [show k + 1 + (n - (k + 1)) = n by omega, badL_next, if_pos h] at hr
  rw [hr]
  constructor
  · simp
  · simp [List.getD]
theorem badL_len_next (L : List UInt8) (k : Nat) (b : Bool) (h : hasB L k = b) : (badL L (k + 1)).length = (badL L k).length + (if b = true then 1 else 0) := by
  rw [badL_next, h]
  cases b <;> simp

set_option maxRecDepth 100000 in
set_option maxHeartbeats 400000 in
theorem text_bad (v : Int) (n : Nat) (hn1 : 1 ≤ n) (hn : n ≤ 256) (S : List UInt8) (hS : S.length = 32) (sz : Int) (h : sz < 8 + (((n + 7) / 8 : Nat) : Int) ∨ 1024 < sz) (w : World) :
    Calls Try.prog 11 #[.agg (bbtC v (n : Int) S), .int .i64 sz] w fun e w' => e = .returned (.tuple #[.string (bs []), .int .i64 2]) ∧ Below w.heap.size w w' := by
  have HBY := hide (fun W => bytes_any n (by omega) W)
  have HB := hide ((Below.refl w.heap.size w).alloc (Nat.le_refl _) (.cells (bbtC v (n : Int) S) 26))
  have hnbi : (((n + 7) / 8 : Nat) : Int) ≤ 32 := by omega
  have hnb0 : (0 : Int) ≤ (((n + 7) / 8 : Nat) : Int) := by omega
  generalize (n + 7) / 8 = nb at *
  have hCs := bbtC_size v (n : Int) S hS
  have h1' := bbtC_1 v (n : Int) S
  generalize bbtC v (n : Int) S = C at *
  have hCe := el h1' (by omega)
  by_cases h1 : sz < 8 + (nb : Int)
  · clear h
    go_enter Try.func11, Try.ntmps11
    go_wp2_with fail
    refine (HBY.out _).mono ?_
    rintro e w1 ⟨rfl, rfl⟩
    go_wp2_with fail
    go_ret2
    exact ⟨rfl, HB.out⟩
  · have h2 : 1024 < sz := h.resolve_left h1
    clear h
    go_enter Try.func11, Try.ntmps11
    go_wp2_with fail
    refine (HBY.out _).mono ?_
    rintro e w1 ⟨rfl, rfl⟩
    go_wp2_with fail
    go_ret2
    exact ⟨rfl, HB.out⟩
set_option maxRecDepth 100000 in
set_option maxHeartbeats 400000 in
theorem rtext_bad (v : Int) (n : Nat) (hn1 : 1 ≤ n) (hn : n ≤ 256) (a : Option Addr) (sz : Int) (h : sz < 8 + (((n + 7) / 8 : Nat) : Int) ∨ 1024 < sz) (w : World) :
    Calls Try.prog 12 #[.int .u64 v, .slice a n n, .int .i64 sz] w fun e w' => e = .returned (.tuple #[.string (bs []), .int .i64 2]) ∧ Below w.heap.size w w' := by
  have hnb0 : ¬ (((n + 7) / 8 : Nat) : Int) = 0 := by omega
  have hnb1 : (((n + 7) / 8 : Nat) : Int) ≤ 32 := by omega
  have hnb2 : (0 : Int) ≤ (((n + 7) / 8 : Nat) : Int) := by omega
  go_enter Try.func12, Try.ntmps12
  by_cases h0 : n % 8 = 0
  · have h2 : (n : Int) % 8 = 0 := by omega
    have h1 : (n : Int) / 8 = (((n + 7) / 8 : Nat) : Int) := by omega
    generalize (((n + 7) / 8 : Nat) : Int) = nb at *
    go_upto_region 4 with (fail)
    by_cases h1 : sz < 8 + nb
    · clear h
      go_wp2_with fail
      go_ret2
      exact ⟨rfl, Below.refl _ _⟩
    · have h2 : 1024 < sz := h.resolve_left h1
      clear h
      go_wp2_with fail
      go_ret2
      exact ⟨rfl, Below.refl _ _⟩
  · have h2 : 0 < (n : Int) % 8 := by omega
    have h3 : (n : Int) / 8 + 1 = (((n + 7) / 8 : Nat) : Int) := by omega
    generalize (((n + 7) / 8 : Nat) : Int) = nb at *
    go_upto_region 4 with (fail)
    by_cases h1 : sz < 8 + nb
    · clear h
      go_wp2_with fail
      go_ret2
      exact ⟨rfl, Below.refl _ _⟩
    · have h2 : 1024 < sz := h.resolve_left h1
      clear h
      go_wp2_with fail
      go_ret2
      exact ⟨rfl, Below.refl _ _⟩
set_option maxRecDepth 100000 in
set_option maxHeartbeats 400000 in
theorem rtext_ok (v : Int) (v0 : 0 ≤ v) (v1 : v ≤ 18446744073709551615) (n : Nat) (hn1 : 1 ≤ n) (hn : n ≤ 256) (L : List UInt8) (hL : L.length = 32) (hov : ∀ k, n ≤ k → hasB L k = false) (g c : Nat) (sz : Int) (hsz : sz = 8 + (((n + 7) / 8 : Nat) : Int) + c) (hle : sz ≤ 1024) (w : World) (hg : w.heap[g]? = some (.cells (badC n L) 4 (0, 0))) :
    Calls Try.prog 12 #[.int .u64 v, .slice (some ⟨g, 0, none⟩) n n, .int .i64 sz] w fun e w' => e = .returned (.tuple #[.string (bs (textL v n L c)), .int .i64 0]) ∧ Below w.heap.size w w' := by
  have HPUT := hide (fun W => rput_any v v0 (by omega) 8 (by omega) (by omega) W)
  rw [show (8 : Int).toNat = 8 from rfl] at HPUT
  have hgl := heap_lt hg
  have HG := hide hg
  clear hg
  have HTX := hide (fun k => show textL v n L k = putL v.toNat 8 ++ L.take ((n + 7) / 8) ++ List.replicate k 0 from rfl)
  have hnbn : n ≤ 8 * ((n + 7) / 8) := by omega
  have hnbN : 8 * ((n + 7) / 8) ≤ 256 := by omega
  have hnbz : ((((n + 7) / 8 : Nat) : Int) == 0) = false := by rw [beq_eq_false_iff_ne]; omega
  have hnbI : (((n + 7) / 8 : Nat) : Int) ≤ 32 := by omega
  have hlt : ¬ sz < 8 + (((n + 7) / 8 : Nat) : Int) := by omega
  have hgt : ¬ 1024 < sz := by omega
  have HSZ := hide hsz
  clear hsz
  go_enter Try.func12, Try.ntmps12
  by_cases h0 : n % 8 = 0
  · have h2 : (n : Int) % 8 = 0 := by omega
    have h1 : (n : Int) / 8 = (((n + 7) / 8 : Nat) : Int) := by omega
    have H8 := hide (show n = 8 * ((n + 7) / 8) by omega)
    generalize (n + 7) / 8 = nb at *
    go_wp2_with fail
    refine (HPUT.out _).mono ?_
    rintro e w1 ⟨rfl, hb1⟩
    have HB1 := hide hb1
    clear hb1
    go_wp2_with fail
    go_loopw [9, 10, 11] (fun s b i W => ∃ k : Nat, k ≤ 8 * nb ∧ i = .int .i64 k ∧ s = .string (bs (putL v.toNat 8 ++ L.take (k / 8))) ∧ b = .int .u8 (soFar L k : Int) ∧ Below w.heap.size w W) (fun _ _ i _ => 8 * nb - (intOf i).toNat)
    case atStart => exact ⟨0, by omega, rfl, by simp, by rw [soFar_zero L 0 rfl]; rfl, HB1.out⟩
    case round =>
      clear HB1
      obtain ⟨i, hi, rfl, rfl, rfl, hbw⟩ := hrel
      have HBW := hide hbw
      clear hbw
      by_cases hlt : i < 8 * nb
      · by_cases hin : i < n
        · cases hb : hasB L i
          · by_cases h7 : i % 8 = 7
            · have hc := (cell_of_block ((HBW.out.block _ hgl).trans HG.out) i).trans (badC_at n L i hin)
              have hbit : hasB L i = false := hb
              rw [hbit] at hc
              have he := soFar_end L i h7
              rw [hbit] at he
              have HTK := hide (take_next L hL i h7 (by omega))
              have HZR := hide (soFar_zero L (i + 1) (by omega))
              have hx : (L.getD (i / 8) 0).toNat = 2 * soFar L i := by simpa using he
              have HTK := hide (show L.take ((i + 1) / 8) = L.take (i / 8) ++ [UInt8.ofNat (2 * soFar L i)] by rw [HTK.out, ← hx, UInt8.ofNat_toNat])
              have hi7 : (i : Int) % 8 = 7 := by omega
              have hsf := soFar_lt L i
              have hcv := fun (W : World) => one_byteQ W (2 * soFar L i) (by omega)
              have HTS := hide (show bs (putL v.toNat 8 ++ L.take ((i + 1) / 8)) = bs (putL v.toNat 8 ++ L.take (i / 8)) ++ bs [UInt8.ofNat (2 * soFar L i)] by rw [HTK.out, ← List.append_assoc, bs_append])
              have hsz : ¬ 9223372036854775807 < (bs (putL v.toNat 8 ++ L.take (i / 8))).size + (bs [UInt8.ofNat (2 * soFar L i)]).size := by
                rw [bs_size, bs_size, List.length_append, putL_length, List.length_take]
                simp
                omega
              have hwi : (((2 * soFar L i : Nat)) : Int) = 2 * (soFar L i : Int) := by omega
              rw [hwi] at hcv
              clear hx he hwi HTK
              generalize UInt8.ofNat (2 * soFar L i) = x at *
              generalize soFar L i = q at *
              generalize bs (putL v.toNat 8 ++ L.take (i / 8)) = s at *
              go_wp2_with fail
              go_roundw
              case rel =>
                refine ⟨i + 1, by omega, by go_num, ?_, ?_, HBW.out.alloc HBW.out.size _⟩
                · rw [HTS.out]
                · rw [HZR.out]; rfl
              case measure => simp [intOf]; omega
            · have hc := (cell_of_block ((HBW.out.block _ hgl).trans HG.out) i).trans (badC_at n L i hin)
              have hbit : hasB L i = false := hb
              rw [hbit] at hc
              have hsn := soFar_next L i h7
              rw [hbit] at hsn
              have HTS := hide (show bs (putL v.toNat 8 ++ L.take ((i + 1) / 8)) = bs (putL v.toNat 8 ++ L.take (i / 8)) by rw [take_stay L i h7])
              have HSN := hide (show ((soFar L (i + 1) : Nat) : Int) = 2 * (soFar L i : Int) by rw [hsn]; simp)
              have hi7 : ¬ (i : Int) % 8 = 7 := by omega
              have hsf := soFar_lt L i
              clear hsn
              generalize soFar L i = q at *
              generalize bs (putL v.toNat 8 ++ L.take (i / 8)) = s at *
              go_wp2_with fail
              go_roundw
              case rel =>
                refine ⟨i + 1, by omega, by go_num, ?_, ?_, HBW.out⟩
                · rw [HTS.out]
                · rw [HSN.out]
              case measure => simp [intOf]; omega
          · by_cases h7 : i % 8 = 7
            · have hc := (cell_of_block ((HBW.out.block _ hgl).trans HG.out) i).trans (badC_at n L i hin)
              have hbit : hasB L i = true := hb
              rw [hbit] at hc
              have he := soFar_end L i h7
              rw [hbit] at he
              have HTK := hide (take_next L hL i h7 (by omega))
              have HZR := hide (soFar_zero L (i + 1) (by omega))
              have hx : (L.getD (i / 8) 0).toNat = 2 * soFar L i + 1 := by simpa using he
              have HTK := hide (show L.take ((i + 1) / 8) = L.take (i / 8) ++ [UInt8.ofNat (2 * soFar L i + 1)] by rw [HTK.out, ← hx, UInt8.ofNat_toNat])
              have hi7 : (i : Int) % 8 = 7 := by omega
              have hsf := soFar_lt L i
              have hcv := fun (W : World) => one_byteQ W (2 * soFar L i + 1) (by omega)
              have HTS := hide (show bs (putL v.toNat 8 ++ L.take ((i + 1) / 8)) = bs (putL v.toNat 8 ++ L.take (i / 8)) ++ bs [UInt8.ofNat (2 * soFar L i + 1)] by rw [HTK.out, ← List.append_assoc, bs_append])
              have hsz : ¬ 9223372036854775807 < (bs (putL v.toNat 8 ++ L.take (i / 8))).size + (bs [UInt8.ofNat (2 * soFar L i + 1)]).size := by
                rw [bs_size, bs_size, List.length_append, putL_length, List.length_take]
                simp
                omega
              have hwi : (((2 * soFar L i + 1 : Nat)) : Int) = 2 * (soFar L i : Int) + 1 := by omega
              rw [hwi] at hcv
              clear hx he hwi HTK
              generalize UInt8.ofNat (2 * soFar L i + 1) = x at *
              generalize soFar L i = q at *
              generalize bs (putL v.toNat 8 ++ L.take (i / 8)) = s at *
              go_wp2_with fail
              go_roundw
              case rel =>
                refine ⟨i + 1, by omega, by go_num, ?_, ?_, HBW.out.alloc HBW.out.size _⟩
                · rw [HTS.out]
                · rw [HZR.out]; rfl
              case measure => simp [intOf]; omega
            · have hc := (cell_of_block ((HBW.out.block _ hgl).trans HG.out) i).trans (badC_at n L i hin)
              have hbit : hasB L i = true := hb
              rw [hbit] at hc
              have hsn := soFar_next L i h7
              rw [hbit] at hsn
              have HTS := hide (show bs (putL v.toNat 8 ++ L.take ((i + 1) / 8)) = bs (putL v.toNat 8 ++ L.take (i / 8)) by rw [take_stay L i h7])
              have HSN := hide (show ((soFar L (i + 1) : Nat) : Int) = 2 * (soFar L i : Int) + 1 by rw [hsn]; simp)
              have hi7 : ¬ (i : Int) % 8 = 7 := by omega
              have hsf := soFar_lt L i
              clear hsn
              generalize soFar L i = q at *
              generalize bs (putL v.toNat 8 ++ L.take (i / 8)) = s at *
              go_wp2_with fail
              go_roundw
              case rel =>
                refine ⟨i + 1, by omega, by go_num, ?_, ?_, HBW.out⟩
                · rw [HTS.out]
                · rw [HSN.out]
              case measure => simp [intOf]; omega
        · exact absurd hin (by have := H8.out; omega)
      · obtain rfl : i = 8 * nb := by omega
        go_wp2_with fail
        go_loopw [9] (fun s W => ∃ k : Nat, k ≤ c ∧ s = .string (bs (putL v.toNat 8 ++ L.take nb ++ List.replicate k 0)) ∧ Below w.heap.size w W) (fun s _ => 8 + nb + c - (match s with | .string b => b.size | _ => 0))
        case atStart => exact ⟨0, by omega, by rw [List.replicate_zero, List.append_nil, show 8 * nb / 8 = nb by omega], HBW.out⟩
        case round =>
          clear HBW
          obtain ⟨k, hk, rfl, hbw⟩ := hrel
          have HBW := hide hbw
          clear hbw
          have hlen : (bs (putL v.toNat 8 ++ L.take nb ++ List.replicate k 0)).size = 8 + nb + k := by
            rw [bs_size, List.length_append, List.length_append, putL_length, List.length_take, List.length_replicate]; omega
          by_cases hkc : k < c
          · have HNX := hide (show bs (putL v.toNat 8 ++ L.take nb ++ List.replicate (k + 1) 0) = bs (putL v.toNat 8 ++ L.take nb ++ List.replicate k 0) ++ ByteArray.mk #[0] by
              rw [List.replicate_succ', ← List.append_assoc]; show _ = bs _ ++ bs [0]; rw [bs_append])
            have hlen2 : (bs (putL v.toNat 8 ++ L.take nb ++ List.replicate k 0) ++ ByteArray.mk #[0]).size = 8 + nb + k + 1 := by
              rw [ByteArray.size_append, hlen]; rfl
            generalize bs (putL v.toNat 8 ++ L.take nb ++ List.replicate k 0) = s at *
            have hsl : (s.size : Int) < sz := by have := HSZ.out; omega
            have hs1 : ¬ 9223372036854775807 < s.size + 1 := by omega
            have HLEN := hide hlen
            clear hlen
            go_wp2_with fail
            go_roundw
            case rel => exact ⟨k + 1, by omega, by rw [HNX.out], HBW.out⟩
            case measure => simp only [hlen2, HLEN.out]; omega
          · obtain rfl : k = c := by omega
            have HS := hide (congrArg bs (HTX.out k))
            generalize bs (putL v.toNat 8 ++ L.take nb ++ List.replicate k 0) = s at *
            have hsl : ¬ (s.size : Int) < sz := by have := HSZ.out; omega
            clear hlen
            go_wp2_with fail
            go_ret2
            exact ⟨ret_str2 HS.out.symm, HBW.out⟩
  · have h2 : 0 < (n : Int) % 8 := by omega
    have h3 : (n : Int) / 8 + 1 = (((n + 7) / 8 : Nat) : Int) := by omega
    generalize (n + 7) / 8 = nb at *
    go_wp2_with fail
    refine (HPUT.out _).mono ?_
    rintro e w1 ⟨rfl, hb1⟩
    have HB1 := hide hb1
    clear hb1
    go_wp2_with fail
    go_loopw [9, 10, 11] (fun s b i W => ∃ k : Nat, k ≤ 8 * nb ∧ i = .int .i64 k ∧ s = .string (bs (putL v.toNat 8 ++ L.take (k / 8))) ∧ b = .int .u8 (soFar L k : Int) ∧ Below w.heap.size w W) (fun _ _ i _ => 8 * nb - (intOf i).toNat)
    case atStart => exact ⟨0, by omega, rfl, by simp, by rw [soFar_zero L 0 rfl]; rfl, HB1.out⟩
    case round =>
      clear HB1
      obtain ⟨i, hi, rfl, rfl, rfl, hbw⟩ := hrel
      have HBW := hide hbw
      clear hbw
      by_cases hlt : i < 8 * nb
      · by_cases hin : i < n
        · cases hb : hasB L i
          · by_cases h7 : i % 8 = 7
            · have hc := (cell_of_block ((HBW.out.block _ hgl).trans HG.out) i).trans (badC_at n L i hin)
              have hbit : hasB L i = false := hb
              rw [hbit] at hc
              have he := soFar_end L i h7
              rw [hbit] at he
              have HTK := hide (take_next L hL i h7 (by omega))
              have HZR := hide (soFar_zero L (i + 1) (by omega))
              have hx : (L.getD (i / 8) 0).toNat = 2 * soFar L i := by simpa using he
              have HTK := hide (show L.take ((i + 1) / 8) = L.take (i / 8) ++ [UInt8.ofNat (2 * soFar L i)] by rw [HTK.out, ← hx, UInt8.ofNat_toNat])
              have hi7 : (i : Int) % 8 = 7 := by omega
              have hsf := soFar_lt L i
              have hcv := fun (W : World) => one_byteQ W (2 * soFar L i) (by omega)
              have HTS := hide (show bs (putL v.toNat 8 ++ L.take ((i + 1) / 8)) = bs (putL v.toNat 8 ++ L.take (i / 8)) ++ bs [UInt8.ofNat (2 * soFar L i)] by rw [HTK.out, ← List.append_assoc, bs_append])
              have hsz : ¬ 9223372036854775807 < (bs (putL v.toNat 8 ++ L.take (i / 8))).size + (bs [UInt8.ofNat (2 * soFar L i)]).size := by
                rw [bs_size, bs_size, List.length_append, putL_length, List.length_take]
                simp
                omega
              have hwi : (((2 * soFar L i : Nat)) : Int) = 2 * (soFar L i : Int) := by omega
              rw [hwi] at hcv
              clear hx he hwi HTK
              generalize UInt8.ofNat (2 * soFar L i) = x at *
              generalize soFar L i = q at *
              generalize bs (putL v.toNat 8 ++ L.take (i / 8)) = s at *
              go_wp2_with fail
              go_roundw
              case rel =>
                refine ⟨i + 1, by omega, by go_num, ?_, ?_, HBW.out.alloc HBW.out.size _⟩
                · rw [HTS.out]
                · rw [HZR.out]; rfl
              case measure => simp [intOf]; omega
            · have hc := (cell_of_block ((HBW.out.block _ hgl).trans HG.out) i).trans (badC_at n L i hin)
              have hbit : hasB L i = false := hb
              rw [hbit] at hc
              have hsn := soFar_next L i h7
              rw [hbit] at hsn
              have HTS := hide (show bs (putL v.toNat 8 ++ L.take ((i + 1) / 8)) = bs (putL v.toNat 8 ++ L.take (i / 8)) by rw [take_stay L i h7])
              have HSN := hide (show ((soFar L (i + 1) : Nat) : Int) = 2 * (soFar L i : Int) by rw [hsn]; simp)
              have hi7 : ¬ (i : Int) % 8 = 7 := by omega
              have hsf := soFar_lt L i
              clear hsn
              generalize soFar L i = q at *
              generalize bs (putL v.toNat 8 ++ L.take (i / 8)) = s at *
              go_wp2_with fail
              go_roundw
              case rel =>
                refine ⟨i + 1, by omega, by go_num, ?_, ?_, HBW.out⟩
                · rw [HTS.out]
                · rw [HSN.out]
              case measure => simp [intOf]; omega
          · by_cases h7 : i % 8 = 7
            · have hc := (cell_of_block ((HBW.out.block _ hgl).trans HG.out) i).trans (badC_at n L i hin)
              have hbit : hasB L i = true := hb
              rw [hbit] at hc
              have he := soFar_end L i h7
              rw [hbit] at he
              have HTK := hide (take_next L hL i h7 (by omega))
              have HZR := hide (soFar_zero L (i + 1) (by omega))
              have hx : (L.getD (i / 8) 0).toNat = 2 * soFar L i + 1 := by simpa using he
              have HTK := hide (show L.take ((i + 1) / 8) = L.take (i / 8) ++ [UInt8.ofNat (2 * soFar L i + 1)] by rw [HTK.out, ← hx, UInt8.ofNat_toNat])
              have hi7 : (i : Int) % 8 = 7 := by omega
              have hsf := soFar_lt L i
              have hcv := fun (W : World) => one_byteQ W (2 * soFar L i + 1) (by omega)
              have HTS := hide (show bs (putL v.toNat 8 ++ L.take ((i + 1) / 8)) = bs (putL v.toNat 8 ++ L.take (i / 8)) ++ bs [UInt8.ofNat (2 * soFar L i + 1)] by rw [HTK.out, ← List.append_assoc, bs_append])
              have hsz : ¬ 9223372036854775807 < (bs (putL v.toNat 8 ++ L.take (i / 8))).size + (bs [UInt8.ofNat (2 * soFar L i + 1)]).size := by
                rw [bs_size, bs_size, List.length_append, putL_length, List.length_take]
                simp
                omega
              have hwi : (((2 * soFar L i + 1 : Nat)) : Int) = 2 * (soFar L i : Int) + 1 := by omega
              rw [hwi] at hcv
              clear hx he hwi HTK
              generalize UInt8.ofNat (2 * soFar L i + 1) = x at *
              generalize soFar L i = q at *
              generalize bs (putL v.toNat 8 ++ L.take (i / 8)) = s at *
              go_wp2_with fail
              go_roundw
              case rel =>
                refine ⟨i + 1, by omega, by go_num, ?_, ?_, HBW.out.alloc HBW.out.size _⟩
                · rw [HTS.out]
                · rw [HZR.out]; rfl
              case measure => simp [intOf]; omega
            · have hc := (cell_of_block ((HBW.out.block _ hgl).trans HG.out) i).trans (badC_at n L i hin)
              have hbit : hasB L i = true := hb
              rw [hbit] at hc
              have hsn := soFar_next L i h7
              rw [hbit] at hsn
              have HTS := hide (show bs (putL v.toNat 8 ++ L.take ((i + 1) / 8)) = bs (putL v.toNat 8 ++ L.take (i / 8)) by rw [take_stay L i h7])
              have HSN := hide (show ((soFar L (i + 1) : Nat) : Int) = 2 * (soFar L i : Int) + 1 by rw [hsn]; simp)
              have hi7 : ¬ (i : Int) % 8 = 7 := by omega
              have hsf := soFar_lt L i
              clear hsn
              generalize soFar L i = q at *
              generalize bs (putL v.toNat 8 ++ L.take (i / 8)) = s at *
              go_wp2_with fail
              go_roundw
              case rel =>
                refine ⟨i + 1, by omega, by go_num, ?_, ?_, HBW.out⟩
                · rw [HTS.out]
                · rw [HSN.out]
              case measure => simp [intOf]; omega
        · by_cases h7 : i % 8 = 7
          · have hbit : hasB L i = false := hov i (by omega)
            have he := soFar_end L i h7
            rw [hbit] at he
            have HTK := hide (take_next L hL i h7 (by omega))
            have HZR := hide (soFar_zero L (i + 1) (by omega))
            have hx : (L.getD (i / 8) 0).toNat = 2 * soFar L i := by simpa using he
            have HTK := hide (show L.take ((i + 1) / 8) = L.take (i / 8) ++ [UInt8.ofNat (2 * soFar L i)] by rw [HTK.out, ← hx, UInt8.ofNat_toNat])
            have hi7 : (i : Int) % 8 = 7 := by omega
            have hsf := soFar_lt L i
            have hcv := fun (W : World) => one_byteQ W (2 * soFar L i) (by omega)
            have HTS := hide (show bs (putL v.toNat 8 ++ L.take ((i + 1) / 8)) = bs (putL v.toNat 8 ++ L.take (i / 8)) ++ bs [UInt8.ofNat (2 * soFar L i)] by rw [HTK.out, ← List.append_assoc, bs_append])
            have hsz : ¬ 9223372036854775807 < (bs (putL v.toNat 8 ++ L.take (i / 8))).size + (bs [UInt8.ofNat (2 * soFar L i)]).size := by
              rw [bs_size, bs_size, List.length_append, putL_length, List.length_take]
              simp
              omega
            have hwi : (((2 * soFar L i : Nat)) : Int) = 2 * (soFar L i : Int) := by omega
            rw [hwi] at hcv
            clear hx he hwi HTK
            generalize UInt8.ofNat (2 * soFar L i) = x at *
            generalize soFar L i = q at *
            generalize bs (putL v.toNat 8 ++ L.take (i / 8)) = s at *
            go_wp2_with fail
            go_roundw
            case rel =>
              refine ⟨i + 1, by omega, by go_num, ?_, ?_, HBW.out.alloc HBW.out.size _⟩
              · rw [HTS.out]
              · rw [HZR.out]; rfl
            case measure => simp [intOf]; omega
          · have hbit : hasB L i = false := hov i (by omega)
            have hsn := soFar_next L i h7
            rw [hbit] at hsn
            have HTS := hide (show bs (putL v.toNat 8 ++ L.take ((i + 1) / 8)) = bs (putL v.toNat 8 ++ L.take (i / 8)) by rw [take_stay L i h7])
            have HSN := hide (show ((soFar L (i + 1) : Nat) : Int) = 2 * (soFar L i : Int) by rw [hsn]; simp)
            have hi7 : ¬ (i : Int) % 8 = 7 := by omega
            have hsf := soFar_lt L i
            clear hsn
            generalize soFar L i = q at *
            generalize bs (putL v.toNat 8 ++ L.take (i / 8)) = s at *
            go_wp2_with fail
            go_roundw
            case rel =>
              refine ⟨i + 1, by omega, by go_num, ?_, ?_, HBW.out⟩
              · rw [HTS.out]
              · rw [HSN.out]
            case measure => simp [intOf]; omega
      · obtain rfl : i = 8 * nb := by omega
        go_wp2_with fail
        go_loopw [9] (fun s W => ∃ k : Nat, k ≤ c ∧ s = .string (bs (putL v.toNat 8 ++ L.take nb ++ List.replicate k 0)) ∧ Below w.heap.size w W) (fun s _ => 8 + nb + c - (match s with | .string b => b.size | _ => 0))
        case atStart => exact ⟨0, by omega, by rw [List.replicate_zero, List.append_nil, show 8 * nb / 8 = nb by omega], HBW.out⟩
        case round =>
          clear HBW
          obtain ⟨k, hk, rfl, hbw⟩ := hrel
          have HBW := hide hbw
          clear hbw
          have hlen : (bs (putL v.toNat 8 ++ L.take nb ++ List.replicate k 0)).size = 8 + nb + k := by
            rw [bs_size, List.length_append, List.length_append, putL_length, List.length_take, List.length_replicate]; omega
          by_cases hkc : k < c
          · have HNX := hide (show bs (putL v.toNat 8 ++ L.take nb ++ List.replicate (k + 1) 0) = bs (putL v.toNat 8 ++ L.take nb ++ List.replicate k 0) ++ ByteArray.mk #[0] by
              rw [List.replicate_succ', ← List.append_assoc]; show _ = bs _ ++ bs [0]; rw [bs_append])
            have hlen2 : (bs (putL v.toNat 8 ++ L.take nb ++ List.replicate k 0) ++ ByteArray.mk #[0]).size = 8 + nb + k + 1 := by
              rw [ByteArray.size_append, hlen]; rfl
            generalize bs (putL v.toNat 8 ++ L.take nb ++ List.replicate k 0) = s at *
            have hsl : (s.size : Int) < sz := by have := HSZ.out; omega
            have hs1 : ¬ 9223372036854775807 < s.size + 1 := by omega
            have HLEN := hide hlen
            clear hlen
            go_wp2_with fail
            go_roundw
            case rel => exact ⟨k + 1, by omega, by rw [HNX.out], HBW.out⟩
            case measure => simp only [hlen2, HLEN.out]; omega
          · obtain rfl : k = c := by omega
            have HS := hide (congrArg bs (HTX.out k))
            generalize bs (putL v.toNat 8 ++ L.take nb ++ List.replicate k 0) = s at *
            have hsl : ¬ (s.size : Int) < sz := by have := HSZ.out; omega
            clear hlen
            go_wp2_with fail
            go_ret2
            exact ⟨ret_str2 HS.out.symm, HBW.out⟩
end Go.Proofs.Ytfphkldpjfackaa
