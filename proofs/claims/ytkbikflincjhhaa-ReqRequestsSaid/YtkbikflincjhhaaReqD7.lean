/-
  Layer 28: the document's Decode, kind by kind.
-/
import Derived.Test.YtkbikflincjhhaaReqD

namespace Go.Proofs.Ytkbikflincjhhaa
set_option linter.unusedSimpArgs false
set_option linter.unusedVariables false
open Go.RowKit Go.WideShapes Go.ChangeShapes Go.ChangeAt Go.Deep
set_option maxRecDepth 100000 in
set_option maxHeartbeats 1000000 in
theorem rdec_8 (l : List UInt8) (hl : l.length ≤ 1000000) (h1 : 1 ≤ l.length) (hk : kd l = 8) (w : World) : Calls Try.prog 11 #[.string (bs l)] w (RDecIs l w) := by
  have HK := hide hk
  have HDL := hide (fun h : decO l = true => (dec_len h).trans rfl)
  have HL1 := hide h1
  obtain ⟨S, hS⟩ : ∃ S, bs l = S := ⟨_, rfl⟩
  have HB0 := hide (fun h : 0 < S.size => show ((S[0]'h).toNat : Int) = 8 from by
    subst hS
    have : ((bs l)[0]'h).toNat = kd l := by
      rw [← getElem_list _ 0 h]
      show ((l[0]'(by omega)).toNat) = _
      unfold kd
      rw [List.getD_eq_getElem?_getD, List.getElem?_eq_getElem (by omega)]; rfl
    rw [this, hk]; rfl)
  have HX1 := hide (show S.extract 1 S.size = bs (l.drop 1) from by rw [← hS]; exact ext_drop l 1)
  have hs1 : ¬ (S.size : Int) < 1 := by rw [← hS, bs_size]; omega
  have hs2 : (1 : Int) ≤ (S.size : Int) := by omega
  have hs0 : 0 < S.size := by omega
  have HSL := hide (show S.size = l.length from by rw [← hS]; rfl)
  rw [hS]
  have HSE := hide hS
  have HL := hide hl
  clear hS hl h1 hk
  go_enter Try.func11, Try.ntmps11
  go_upto_region 5 with (fail)
  rw [HB0.out hs0]
  have D0 := hide (show RdF w (((w.alloc (.cells #[.int .u8 0, .int .i64 0, .int .u8 0, .string ⟨#[]⟩, .int .u64 0, .int .i64 0, .int .i64 0, .int .i64 0, .slice none 0 0] 42)).alloc (.cells #[.int .u8 0, .int .i64 0, .int .u8 0, .string ⟨#[]⟩, .int .u64 0, .int .i64 0, .int .i64 0, .int .i64 0, .slice none 0 0] 42)).alloc (.cells #[.int .u8 8, .int .i64 0, .int .u8 0, .string ⟨#[]⟩, .int .u64 0, .int .i64 0, .int .i64 0, .int .i64 0, .slice none 0 0] 42)) w.heap.size (w.heap.size + 1) (w.heap.size + 2) #[.int .u8 8, .int .i64 0, .int .u8 0, .string ⟨#[]⟩, .int .u64 0, .int .i64 0, .int .i64 0, .int .i64 0, .slice none 0 0] from RdF.mk3 8)
  generalize ((w.alloc (.cells #[.int .u8 0, .int .i64 0, .int .u8 0, .string ⟨#[]⟩, .int .u64 0, .int .i64 0, .int .i64 0, .int .i64 0, .slice none 0 0] 42)).alloc (.cells #[.int .u8 0, .int .i64 0, .int .u8 0, .string ⟨#[]⟩, .int .u64 0, .int .i64 0, .int .i64 0, .int .i64 0, .slice none 0 0] 42)).alloc (.cells #[.int .u8 8, .int .i64 0, .int .u8 0, .string ⟨#[]⟩, .int .u64 0, .int .i64 0, .int .i64 0, .int .i64 0, .slice none 0 0] 42) = W0 at *
  generalize w.heap.size + 2 = rb at D0 ⊢
  generalize w.heap.size + 1 = nb at D0 ⊢
  generalize hra : w.heap.size = ra at D0 ⊢
  clear hra HB0
  go_upto_region 6 with (fail)
  rw [HX1.out]
  clear HX1 hs2 hs0
  go_loop [6] (fun t => ∃ m : Nat, (m = 0 ∨ (bs (l.drop 1 ++ List.replicate m 0)).size ≤ 24) ∧ t = .string (bs (l.drop 1 ++ List.replicate m 0))) (fun t => 24 - lenV t)
  case atStart => exact ⟨0, Or.inl rfl, by rw [List.replicate_zero, List.append_nil]⟩
  case round =>
    obtain ⟨m, hm, rfl⟩ := hrel
    have HNX := hide (show bs (l.drop 1 ++ List.replicate m 0) ++ ⟨#[0]⟩ = bs (l.drop 1 ++ List.replicate (m + 1) 0) from (bs_app _ [0]).trans (by rw [List.append_assoc, List.replicate_succ']))
    have HPD := hide (fun h : 24 ≤ (bs (l.drop 1 ++ List.replicate m 0)).size => PadOf.mk (l := l) h ⟨m, rfl⟩)
    obtain ⟨X, hX⟩ : ∃ X, bs (l.drop 1 ++ List.replicate m 0) = X := ⟨_, rfl⟩
    have HXX := hide hX
    rw [hX] at HNX HPD ⊢
    clear hX hm
    by_cases hlt : (X.size : Int) < 24
    · have hsm : ¬ 9223372036854775807 < X.size + 1 := by omega
      go_wp2_with fail
      go_round
      case rel => exact ⟨m + 1, Or.inr (by rw [← HNX.out]; show (X ++ ⟨#[0]⟩).size ≤ 24; rw [ByteArray.size_append]; show X.size + 1 ≤ 24; omega), congrArg Value.string HNX.out⟩
      case measure => show 24 - (X ++ ⟨#[0]⟩).size < 24 - X.size; rw [ByteArray.size_append]; show 24 - (X.size + 1) < _; omega
    · have HPP := hide (HPD.out (by omega))
      clear HNX HPD HXX
      have hx24 : (24 : Int) ≤ (X.size : Int) := by omega
      have hn24 : 24 ≤ X.size := by omega
      obtain ⟨n1, hn1⟩ : ∃ x : Nat, getN (X.extract 0 8).data.toList = x := ⟨_, rfl⟩
      have hbn1 : n1 < 18446744073709551616 := by rw [← hn1]; exact num_lt X 0 8 8 (by omega) (by omega)
      have HCn1 := hide (fun V => rnumber_any (X.extract 0 8) (num_sz X 0 8 (by omega)) V)
      rw [hn1] at HCn1
      have HVn1 := hide (fun h : 9 ≤ l.length => show n1 = fl l 1 8 from by rw [← hn1]; exact pad_fl HPP.out 0 8 h)
      have hcn1 : (8 : Int) ≤ (X.size : Int) := by omega
      clear hn1
      obtain ⟨n3, hn3⟩ : ∃ x : Nat, getN (X.extract 8 16).data.toList = x := ⟨_, rfl⟩
      have hbn3 : n3 < 18446744073709551616 := by rw [← hn3]; exact num_lt X 8 16 8 (by omega) (by omega)
      have HCn3 := hide (fun V => rnumber_any (X.extract 8 16) (num_sz X 8 16 (by omega)) V)
      rw [hn3] at HCn3
      have HVn3 := hide (fun h : 17 ≤ l.length => show n3 = fl l 9 8 from by rw [← hn3]; exact pad_fl HPP.out 8 16 h)
      have hcn3 : (16 : Int) ≤ (X.size : Int) := by omega
      clear hn3
      obtain ⟨am, ham⟩ : ∃ x, IntKind.i64.wrap (n3 : Int) = x := ⟨_, rfl⟩
      have HAM := hide (show am = wrap64 (n3 : Int) from by rw [← ham, wrap64_i64])
      have ham2 : wrap64 (n3 : Int) = am := HAM.out.symm
      obtain ⟨n2, hn2⟩ : ∃ x : Nat, getN (X.extract 16 18).data.toList = x := ⟨_, rfl⟩
      have hbn2 : n2 < 65536 := by rw [← hn2]; exact num_lt X 16 18 2 (by omega) (by omega)
      have HCn2 := hide (fun V => rnumber_any (X.extract 16 18) (num_sz X 16 18 (by omega)) V)
      rw [hn2] at HCn2
      have HVn2 := hide (fun h : 19 ≤ l.length => show n2 = fl l 17 2 from by rw [← hn2]; exact pad_fl HPP.out 16 18 h)
      have hcn2 : (18 : Int) ≤ (X.size : Int) := by omega
      clear hn2
      obtain ⟨hi1, hi2⟩ := wr_i64 n2 (by omega)
      have e0 := cell_of_block D0.out.box 0
      go_wp2_with fail
      refine (HCn1.out _).mono ?_
      rintro e _ ⟨rfl, rfl⟩
      have e4 := cell_of_block D0.out.box 4
      have z4 := frozen_of_block D0.out.box 4
      have D1 := hide (show RdF w (W0.setCell ⟨rb, 4, none⟩ (.int .u64 (n1 : Int))) ra nb rb #[.int .u8 8, .int .i64 0, .int .u8 0, .string ⟨#[]⟩, .int .u64 (n1 : Int), .int .i64 0, .int .i64 0, .int .i64 0, .slice none 0 0] from D0.out.store 4 (.int .u64 (n1 : Int)))
      go_upto_region 37 with (fail)
      generalize W0.setCell ⟨rb, 4, none⟩ (.int .u64 (n1 : Int)) = V1 at *
      clear e0 e4 z4 D0
      have e0 := cell_of_block D1.out.box 0
      go_wp2_with fail
      refine (HCn3.out _).mono ?_
      rintro e _ ⟨rfl, rfl⟩
      go_upto_region 38 with (fail)
      have e6 := cell_of_block D1.out.box 6
      have z6 := frozen_of_block D1.out.box 6
      have D2 := hide (show RdF w (V1.setCell ⟨rb, 6, none⟩ (.int .i64 am)) ra nb rb #[.int .u8 8, .int .i64 0, .int .u8 0, .string ⟨#[]⟩, .int .u64 (n1 : Int), .int .i64 0, .int .i64 am, .int .i64 0, .slice none 0 0] from D1.out.store 6 (.int .i64 am))
      go_upto_region 39 with (fail)
      generalize V1.setCell ⟨rb, 6, none⟩ (.int .i64 am) = V2 at *
      clear e0 e6 z6 D1
      have e0 := cell_of_block D2.out.box 0
      go_wp2_with fail
      refine (HCn2.out _).mono ?_
      rintro e _ ⟨rfl, rfl⟩
      go_upto_region 40 with (fail)
      have e1 := cell_of_block D2.out.box 1
      have z1 := frozen_of_block D2.out.box 1
      have D3 := hide (show RdF w (V2.setCell ⟨rb, 1, none⟩ (.int .i64 (n2 : Int))) ra nb rb #[.int .u8 8, .int .i64 (n2 : Int), .int .u8 0, .string ⟨#[]⟩, .int .u64 (n1 : Int), .int .i64 0, .int .i64 am, .int .i64 0, .slice none 0 0] from D2.out.store 1 (.int .i64 (n2 : Int)))
      go_upto_region 48 with (fail)
      generalize V2.setCell ⟨rb, 1, none⟩ (.int .i64 (n2 : Int)) = V3 at *
      clear e0 e1 z1 D2
      have e0 := cell_of_block D3.out.box 0
      have HX := hide (fun h : decO l = true => show decR l = (⟨8, 8, (n1 : Int), 0, am, (n2 : Int), 0, ⟨#[]⟩, [], 0⟩ : RqM) from by have hq := dec_len h; rw [lenOf_7 (Or.inr HK.out)] at hq; rw [decR_8 HK.out, ← HVn1.out (by omega), ← HVn3.out (by omega), ← HAM.out, ← HVn2.out (by omega)]; (try rfl))
      have HOK := hide (show RqOk (⟨8, 8, (n1 : Int), 0, am, (n2 : Int), 0, ⟨#[]⟩, [], 0⟩ : RqM) from ⟨by show (0 : Int) ≤ 8 ∧ (8 : Int) ≤ 255; omega, by show (0 : Int) ≤ (n1 : Int) ∧ ((n1 : Int) : Int) ≤ 18446744073709551615; omega, by show inR (0); unfold inR; omega, by show inR am; rw [HAM.out]; exact wrap64_in _, by show inR ((n2 : Int)); unfold inR; omega, by show (0 : Int) ≤ 0 ∧ (0 : Int) ≤ 255; omega, by show 0 ≤ 9223372036854775807; omega, fun x hx => absurd hx (by simp), by show 0 ≤ 20; omega, by show inR (0); unfold inR; omega⟩)
      have HEN := hide (rq_enc (⟨8, 8, (n1 : Int), 0, am, (n2 : Int), 0, ⟨#[]⟩, [], 0⟩ : RqM) HOK.out (by show 0 ≤ 300; omega) none 0 V3 (fun i hi => absurd hi (Nat.not_lt_zero i)))
      go_wp2_with (refine wpList_rowLoad rfl 42 (.tmp 5) rfl rb rfl 42 #[.int .u8 8, .int .i64 (n2 : Int), .int .u8 0, .string ⟨#[]⟩, .int .u64 (n1 : Int), .int .i64 0, .int .i64 am, .int .i64 0, .slice none 0 0] (0, 0) _ D3.out.box Try.underlying42 rfl (by kernel_rfl) ?_)
      refine HEN.out.mono ?_
      rintro e w9 ⟨rfl, hb⟩
      have D9 := hide (D3.out.low hb)
      clear hb HEN e0
      by_cases hd : decO l = true
      · have HD := hide hd
        obtain ⟨hy1, hy2⟩ := rdec_yes hd (HX.out hd)
        rw [HSE.out] at hy2
        rw [hy1, hy2]
        clear hd hy1 hy2
        go_wp2_with (first | (refine wpList_rowLoad rfl 42 (.tmp 5) rfl rb rfl 42 #[.int .u8 8, .int .i64 (n2 : Int), .int .u8 0, .string ⟨#[]⟩, .int .u64 (n1 : Int), .int .i64 0, .int .i64 am, .int .i64 0, .slice none 0 0] (0, 0) _ D9.out.box Try.underlying42 rfl (by kernel_rfl) ?_) | (refine wpList_rowStore rfl 42 (.tmp 2) (.tmp 152) rfl ra rfl #[.int .u8 8, .int .i64 (n2 : Int), .int .u8 0, .string ⟨#[]⟩, .int .u64 (n1 : Int), .int .i64 0, .int .i64 am, .int .i64 0, .slice none 0 0] rfl rdZ D9.out.res (by kernel_rfl) rfl row9_one ?_))
        (try simp only [Exit.inBlock, Exit.then])
        refine bodyPost_ret (res_cell2 (P := Try.prog) rfl _ _ ra 42 #[.int .u8 8, .int .i64 (n2 : Int), .int .u8 0, .string ⟨#[]⟩, .int .u64 (n1 : Int), .int .i64 0, .int .i64 am, .int .i64 0, .slice none 0 0] (0, 0) _ rfl (setRow_self _ _ _ _ _ _ D9.out.res) Try.underlying42 rfl (by kernel_rfl)) rfl ?_
        exact rdec_end_yes HD.out (HX.out HD.out) none 0 (fun i hi => absurd hi (Nat.not_lt_zero i)) (setRow_low D9.out.below D9.out.new.1.1 _)
      · have HND := hide hd
        by_cases hok : encOk (⟨8, 8, (n1 : Int), 0, am, (n2 : Int), 0, ⟨#[]⟩, [], 0⟩ : RqM) = true
        · have hne := rdec_no hd hok
          rw [HSE.out] at hne
          rw [hok]
          generalize rencS (⟨8, 8, (n1 : Int), 0, am, (n2 : Int), 0, ⟨#[]⟩, [], 0⟩ : RqM) = u at *
          have hns := str_neN hne
          clear hd hok hne
          go_wp2_with (first | (refine wpList_rowLoad rfl 42 (.tmp 4) rfl nb rfl 42 rdZ (0, 0) _ D9.out.non Try.underlying42 rfl (by kernel_rfl) ?_) | (refine wpList_rowStore rfl 42 (.tmp 2) (.tmp 151) rfl ra rfl rdZ rfl rdZ D9.out.res (by kernel_rfl) rfl row9_oneZ ?_))
          (try simp only [Exit.inBlock, Exit.then])
          refine bodyPost_ret (res_cell2 (P := Try.prog) rfl _ _ ra 42 rdZ (0, 0) _ rfl (setRow_self _ _ _ _ _ _ D9.out.res) Try.underlying42 rfl (by kernel_rfl)) rfl ?_
          exact rdec_end_no HND.out (setRow_low D9.out.below D9.out.new.1.1 _)
        · have hof : encOk (⟨8, 8, (n1 : Int), 0, am, (n2 : Int), 0, ⟨#[]⟩, [], 0⟩ : RqM) = false := by simpa using hok
          rw [hof]
          generalize rencS (⟨8, 8, (n1 : Int), 0, am, (n2 : Int), 0, ⟨#[]⟩, [], 0⟩ : RqM) = u at *
          clear hd hok hof
          go_wp2_with (first | (refine wpList_rowLoad rfl 42 (.tmp 4) rfl nb rfl 42 rdZ (0, 0) _ D9.out.non Try.underlying42 rfl (by kernel_rfl) ?_) | (refine wpList_rowStore rfl 42 (.tmp 2) (.tmp 151) rfl ra rfl rdZ rfl rdZ D9.out.res (by kernel_rfl) rfl row9_oneZ ?_))
          (try simp only [Exit.inBlock, Exit.then])
          refine bodyPost_ret (res_cell2 (P := Try.prog) rfl _ _ ra 42 rdZ (0, 0) _ rfl (setRow_self _ _ _ _ _ _ D9.out.res) Try.underlying42 rfl (by kernel_rfl)) rfl ?_
          exact rdec_end_no HND.out (setRow_low D9.out.below D9.out.new.1.1 _)
end Go.Proofs.Ytkbikflincjhhaa
