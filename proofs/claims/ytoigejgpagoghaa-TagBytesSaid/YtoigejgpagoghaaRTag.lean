/-
  Layer 6, the document's answer: Right, Frame, by contracts.
-/
import Derived.Test.YtoigejgpagoghaaTag5
import Derived.Test.YtoigejgpagoghaaRef1
namespace Go.Proofs.Ytoigejgpagoghaa
set_option linter.unusedSimpArgs false
set_option linter.unusedVariables false
open Go.RowKit Go.WideShapes Go.ChangeShapes Go.ChangeAt

theorem rright_yes (k l s p n : Int) (h : TagOk k l p n) (w : World) :
    Calls Try.prog 13 #[.agg #[.int .u8 k, .int .i64 l, .int .u64 s, .int .i64 p, .int .i64 n]] w fun e w' => e = .returned (.bool true) ∧ Below w.heap.size w w' := by
  obtain ⟨h1, h2, h3, h4, h5, h6, h7, h8⟩ := h
  go_enter Try.func13, Try.ntmps13
  go_wp2
  go_ret
  exact ⟨rfl, (Below.refl _ _).alloc (Nat.le_refl _) _⟩
theorem rright_no (k l s p n : Int) (h : ¬ TagOk k l p n) (w : World) :
    Calls Try.prog 13 #[.agg #[.int .u8 k, .int .i64 l, .int .u64 s, .int .i64 p, .int .i64 n]] w fun e w' => e = .returned (.bool false) ∧ Below w.heap.size w w' := by
  have hs : ¬ 1 ≤ k ∨ (1 ≤ k ∧ ¬ k ≤ 3) ∨ (1 ≤ k ∧ k ≤ 3 ∧ ¬ 0 ≤ l) ∨ (1 ≤ k ∧ k ≤ 3 ∧ 0 ≤ l ∧ ¬ l ≤ 65535) ∨ (1 ≤ k ∧ k ≤ 3 ∧ 0 ≤ l ∧ l ≤ 65535 ∧ ¬ 1 ≤ n) ∨ (1 ≤ k ∧ k ≤ 3 ∧ 0 ≤ l ∧ l ≤ 65535 ∧ 1 ≤ n ∧ ¬ n ≤ 255) ∨ (1 ≤ k ∧ k ≤ 3 ∧ 0 ≤ l ∧ l ≤ 65535 ∧ 1 ≤ n ∧ n ≤ 255 ∧ ¬ 0 ≤ p) ∨ (1 ≤ k ∧ k ≤ 3 ∧ 0 ≤ l ∧ l ≤ 65535 ∧ 1 ≤ n ∧ n ≤ 255 ∧ 0 ≤ p ∧ ¬ p < n) := by
    unfold TagOk at h; omega
  clear h
  rcases hs with h1 | ⟨h1, h2⟩ | ⟨h1, h2, h3⟩ | ⟨h1, h2, h3, h4⟩ | ⟨h1, h2, h3, h4, h5⟩ | ⟨h1, h2, h3, h4, h5, h6⟩ | ⟨h1, h2, h3, h4, h5, h6, h7⟩ | ⟨h1, h2, h3, h4, h5, h6, h7, h8⟩
  all_goals
    go_enter Try.func13, Try.ntmps13
    go_wp2
    go_ret
    exact ⟨rfl, (Below.refl _ _).alloc (Nat.le_refl _) _⟩
theorem rframe_arg (k l s p n : Int) (h : ¬ TagOk k l p n) (d : ByteArray) (w : World) :
    Calls Try.prog 11 #[.agg #[.int .u8 k, .int .i64 l, .int .u64 s, .int .i64 p, .int .i64 n], .string d] w fun e w' => e = .returned (.tuple #[.string ⟨#[]⟩, .int .i64 2]) ∧ Below w.heap.size w w' := by
  have HR := hide (fun W => rright_no k l s p n h W)
  clear h
  go_enter Try.func11, Try.ntmps11
  go_wp2_with fail
  refine (HR.out _).mono ?_
  rintro e w1 ⟨rfl, hb⟩
  go_wp2_with fail
  go_ret2
  exact ⟨rfl, below_trans ((Below.refl _ _).alloc (Nat.le_refl _) _) hb⟩
theorem conv_one (k : Int) (k0 : 0 ≤ k) (k1 : k ≤ 255) (W : World) : (convert 51 9 (.slice (some ⟨W.heap.size, 0, none⟩) 1 1)).run Try.prog (W.alloc (.cells #[.int .u8 k] 5)) = .ok (.string (bs [UInt8.ofNat k.toNat])) (W.alloc (.cells #[.int .u8 k] 5)) := by
  refine conv_bytes _ _ _ _ _ [UInt8.ofNat k.toNat] rfl (fun i hi => ?_)
  obtain rfl : i = 0 := by omega
  rw [World.cell?_alloc_new]
  simp [List.getD]
  omega
theorem conv_two (p n : Int) (p0 : 0 ≤ p) (p1 : p ≤ 255) (n0 : 0 ≤ n) (n1 : n ≤ 255) (W : World) : (convert 51 9 (.slice (some ⟨W.heap.size, 0, none⟩) 2 2)).run Try.prog (W.alloc (.cells #[.int .u8 p, .int .u8 n] 5)) = .ok (.string (bs [UInt8.ofNat p.toNat, UInt8.ofNat n.toNat])) (W.alloc (.cells #[.int .u8 p, .int .u8 n] 5)) := by
  refine conv_bytes _ _ _ _ _ [UInt8.ofNat p.toNat, UInt8.ofNat n.toNat] rfl (fun i hi => ?_)
  rw [World.cell?_alloc_new]
  have hi2 : i = 0 ∨ i = 1 := by omega
  rcases hi2 with rfl | rfl
  · simp [List.getD]; omega
  · simp [List.getD]; omega
theorem putL_one (k : Int) (k0 : 0 ≤ k) (k1 : k ≤ 255) : putL k.toNat 1 = [UInt8.ofNat k.toNat] := by
  have : k.toNat % 256 = k.toNat := Nat.mod_eq_of_lt (by omega)
  simp [putL, this]
set_option maxRecDepth 100000 in
set_option maxHeartbeats 400000 in
theorem rframe_ok (k l s p n : Int) (h : TagOk k l p n) (s0 : 0 ≤ s) (s1 : s ≤ 18446744073709551615) (d : List UInt8) (hd : d.length ≤ 1000000) (w : World) :
    Calls Try.prog 11 #[.agg #[.int .u8 k, .int .i64 l, .int .u64 s, .int .i64 p, .int .i64 n], .string (bs d)] w fun e w' => e = .returned (.tuple #[.string (bs (frameL k l s p n d)), .int .i64 0]) ∧ Below w.heap.size w w' := by
  have HR := hide (fun W => rright_yes k l s p n h W)
  obtain ⟨h1, h2, h3, h4, h5, h6, h7, h8⟩ := h
  have HP1 := hide (fun W => rput_any l (by omega) (by omega) 2 (by omega) (by omega) W)
  have HP2 := hide (fun W => rput_any s s0 (by omega) 8 (by omega) (by omega) W)
  have u2 : IntKind.u64.wrap l = l := wraps_u64 _ (by omega) (by omega)
  have hc1 := conv_one k (by omega) (by omega)
  have hz1 : (bs [UInt8.ofNat k.toNat]).size = 1 := rfl
  have hz2 : (bs (putL l.toNat 2)).size = 2 := by rw [bs_size, putL_length]
  have hz3 : (bs (putL s.toNat 8)).size = 8 := by rw [bs_size, putL_length]
  have hz4 : (bs [UInt8.ofNat p.toNat, UInt8.ofNat n.toNat]).size = 2 := rfl
  have HFM := hide (show ByteArray.mk #[255] ++ bs [UInt8.ofNat k.toNat] ++ bs (putL l.toNat 2) ++ bs (putL s.toNat 8) ++ bs [UInt8.ofNat p.toNat, UInt8.ofNat n.toNat] = bs ([255] ++ fieldsL k.toNat l.toNat s.toNat p.toNat n.toNat) by
    rw [show (ByteArray.mk #[255]) = bs [255] from rfl, bs_append, bs_append, bs_append, bs_append]
    unfold fieldsL
    rw [putL_one k (by omega) (by omega), putL_one p (by omega) (by omega), putL_one n (by omega) (by omega)]
    simp)
  have hfl := fieldsL_length k.toNat l.toNat s.toNat p.toNat n.toNat
  have HHZ := hide (show headZ k l s p n = [255] ++ fieldsL k.toNat l.toNat s.toNat p.toNat n.toNat ++ List.replicate 14 0 from rfl)
  generalize fieldsL k.toNat l.toNat s.toNat p.toNat n.toNat = fl at *
  go_enter Try.func11, Try.ntmps11
  go_wp2_with fail
  refine (HR.out _).mono ?_
  rintro e w1 ⟨rfl, hb1⟩
  have HB1 := hide (below_trans ((Below.refl w.heap.size w).alloc (Nat.le_refl _) (.cells (tagC k l s p n) 41)) hb1)
  have HC := hide ((hb1.block _ (by rw [heap_alloc_sz]; omega)).trans (heap_new w (.cells (tagC k l s p n) 41)))
  obtain ⟨⟨d0, d1, d2, d3, d4⟩, -, dl⟩ := tagC_cells HC.out
  clear hb1 HR
  go_wp2_with fail
  refine (HP1.out _).mono ?_
  rintro e w2 ⟨rfl, hb2⟩
  have HB2 := hide (below_trans HB1.out hb2)
  have HC2 := hide ((hb2.block _ (heap_lt HC.out)).trans HC.out)
  clear hb2 HP1 HB1 HC d0 d1 d2 d3 d4 dl
  obtain ⟨⟨d0, d1, d2, d3, d4⟩, -, dl⟩ := tagC_cells HC2.out
  go_wp2_with fail
  refine (HP2.out _).mono ?_
  rintro e w3 ⟨rfl, hb3⟩
  have HB3 := hide (below_trans HB2.out hb3)
  have HC3 := hide ((hb3.block _ (heap_lt HC2.out)).trans HC2.out)
  clear hb3 HP2 HB2 HC2 d0 d1 d2 d3 d4 dl
  obtain ⟨⟨d0, d1, d2, d3, d4⟩, -, dl⟩ := tagC_cells HC3.out
  have hc2 := conv_two p n (by omega) (by omega) (by omega) (by omega) (w3.alloc (.cells #[.int .u8 k] 5))
  rw [heap_alloc_sz] at hc2
  have HB4 := hide ((HB3.out.alloc HB3.out.size (.cells #[.int .u8 k] 5)).alloc (HB3.out.alloc HB3.out.size (.cells #[.int .u8 k] 5)).size (.cells #[.int .u8 p, .int .u8 n] 5))
  obtain ⟨wo, hwo⟩ : ∃ wo : World, wo = (w3.alloc (.cells #[.int .u8 k] 5)).alloc (.cells #[.int .u8 p, .int .u8 n] 5) := ⟨_, rfl⟩
  rw [← hwo] at HB4
  go_wp2_with fail
  rw [HFM.out, ← hwo]
  clear hc2 hwo d0 d1 d2 d3 d4 dl HC3 HB3 HFM
  have hpl : ([255] ++ fl : List UInt8).length = 14 := by simp [hfl]
  generalize ([255] ++ fl : List UInt8) = pre at *
  have HSD := hide (fun (W : World) => rsum_any (bs (d ++ headZ k l s p n)) (by rw [bs_size, List.length_append, headZ_length]; omega) W)
  have hcl := cN_le (d ++ headZ k l s p n)
  have HPU := hide (fun (W : World) => rput_any (cN (d ++ headZ k l s p n) : Int) (by omega) (by omega) 4 (by omega) (by omega) W)
  rw [Int.toNat_natCast] at HPU
  have HFR := hide (show bs (frameL k l s p n d) = bs (headZ k l s p n) ++ bs (putL (cN (d ++ headZ k l s p n)) 4) from by rw [bs_append]; rfl)
  rw [bs_toList] at HSD
  have HAP := hide (show bs d ++ bs (headZ k l s p n) = bs (d ++ headZ k l s p n) from bs_append _ _)
  have hds := bs_size d
  have hhs := bs_size (headZ k l s p n)
  rw [headZ_length] at hhs
  generalize cN (d ++ headZ k l s p n) = cc at *
  go_loop [9] (fun s9 => ∃ j : Nat, j ≤ 14 ∧ s9 = .string (bs (pre ++ List.replicate j 0))) (fun s9 => match s9 with | .string b => 28 - b.size | _ => 0)
  case atStart => exact ⟨0, by omega, by rw [List.replicate_zero, List.append_nil]⟩
  case round =>
    obtain ⟨j, hj, rfl⟩ := hrel
    have hsj : (bs (pre ++ List.replicate j 0)).size = 14 + j := by rw [bs_size, List.length_append, hpl, List.length_replicate]
    have hnx : bs (pre ++ List.replicate j 0) ++ ByteArray.mk #[0] = bs (pre ++ List.replicate (j + 1) 0) := by
      rw [show (ByteArray.mk #[0]) = bs [0] from rfl, bs_append, List.replicate_succ', List.append_assoc]
    have hnx2 : (bs (pre ++ List.replicate (j + 1) 0)).size = 14 + (j + 1) := by rw [bs_size, List.length_append, hpl, List.length_replicate]
    by_cases hlt : j < 14
    · have hss : (bs (pre ++ List.replicate j 0) ++ ByteArray.mk #[0]).size = 15 + j := by rw [hnx, hnx2]; omega
      go_wp2
      go_round
      case rel => exact ⟨j + 1, by omega, rfl⟩
      case measure => show 28 - _ < 28 - _; rw [hnx2, hsj]; omega
    · obtain rfl : j = 14 := by omega
      rw [← HHZ.out]
      rw [← HHZ.out] at hsj
      clear hnx hnx2
      go_wp2_with fail
      rw [HAP.out]
      refine (HSD.out _).mono ?_
      rintro e w5 ⟨rfl, rfl⟩
      go_wp2_with fail
      refine (HPU.out _).mono ?_
      rintro e w5 ⟨rfl, hb⟩
      have hps : (bs (putL cc 4)).size = 4 := by rw [bs_size, putL_length]
      go_wp2_with fail
      go_ret2
      exact ⟨ret_str2 HFR.out.symm, below_trans HB4.out hb⟩
theorem index_at (l : List UInt8) (i : Nat) (h : i < (bs l).size) : (((bs l)[i]'h).toNat : Int) = ((l.getD i 0).toNat : Int) := by
  have h' : i < l.length := h
  simp only [List.getD, List.getElem?_eq_getElem h', Option.getD_some]
  rfl
theorem fld_one (l : List UInt8) (i : Nat) (h : i < l.length) : fld l i 1 = (l.getD i 0).toNat := by
  unfold fld
  rw [List.drop_eq_getElem_cons h, List.take_succ_cons, List.take_zero, getN_cons]
  simp [getN, List.getD, h]
theorem res_rtag2 {fn : Func} {p u : Tmp} (h : fn.results = #[.cell p 41, .tmp u]) (tmps : Array Value) (w : World) (A : Nat) (a b c d e : Int) (v : Value)
    (hp : tmps.getD p undef = .pointer (some ⟨A, 0, none⟩)) (hu : tmps.getD u undef = v) (hg : w.heap[A]? = some (.cells (tagC a b c d e) 41 (0, 0))) : (results fn tmps).run Try.prog w = .ok (.tuple #[.agg (tagC a b c d e), v]) w := by
  rw [results_cell_tmp h, hp, hu]
  simp [asAddr, Result.andThen, run_loadVar_row w A 41 41 _ _ _ hg Try.underlying41 rfl (by show _ = some 5; kernel_rfl)]
theorem two_old (w : World) {o o2 : Obj} : ((w.alloc o).alloc o2).heap[w.heap.size]? = some o := (heap_old _ _ _ (by rw [heap_alloc_sz]; omega)).trans (heap_new w _)
set_option maxRecDepth 100000 in
set_option maxHeartbeats 400000 in
theorem rparse_len (d : ByteArray) (l : List UInt8) (hl : l.length ≠ 32) (hm : l.length ≤ 9223372036854775807) (w : World) :
    Calls Try.prog 15 #[.string d, .string (bs l)] w fun e w' => e = .returned (.tuple #[.agg (tagC 0 0 0 0 0), .int .i64 4]) ∧ Below w.heap.size w w' := by
  have hs := bs_size l
  have hx : (((bs l).size : Int) == 32) = false := by rw [hs, beq_eq_false_iff_ne]; omega
  go_enter Try.func15, Try.ntmps15
  go_wp2_with fail
  exact bodyPost_ret (res_rtag2 Try.results15 _ _ w.heap.size 0 0 0 0 0 _ rfl rfl (two_old w)) rfl ⟨rfl, below2 _ _ _⟩
end Go.Proofs.Ytoigejgpagoghaa
