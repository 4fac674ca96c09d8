/-
  Layer 28: the document's Decode, kind by kind.
-/
import Derived.Test.YtkbikflincjhhaaReqD

namespace Go.Proofs.Ytkbikflincjhhaa
set_option linter.unusedSimpArgs false
set_option linter.unusedVariables false
open Go.RowKit Go.WideShapes Go.ChangeShapes Go.ChangeAt Go.Deep
set_option maxRecDepth 100000 in
set_option maxHeartbeats 1000000 in
theorem rdec_1 (l : List UInt8) (hl : l.length ≤ 1000000) (h1 : 1 ≤ l.length) (hk : kd l = 1) (w : World) : Calls Try.prog 11 #[.string (bs l)] w (RDecIs l w) := by
  have HK := hide hk
  have HDL := hide (fun h : decO l = true => (dec_len h).trans rfl)
  have HL1 := hide h1
  obtain ⟨S, hS⟩ : ∃ S, bs l = S := ⟨_, rfl⟩
  have HB0 := hide (fun h : 0 < S.size => show ((S[0]'h).toNat : Int) = 1 from by
    subst hS
    have : ((bs l)[0]'h).toNat = kd l := by
      rw [← getElem_list _ 0 h]
      show ((l[0]'(by omega)).toNat) = _
      unfold kd
      rw [List.getD_eq_getElem?_getD, List.getElem?_eq_getElem (by omega)]; rfl
    rw [this, hk]; rfl)
  have HX1 := hide (show S.extract 1 S.size = bs (l.drop 1) from by rw [← hS]; exact ext_drop l 1)
  have hs1 : ¬ (S.size : Int) < 1 := by rw [← hS, bs_size]; omega
  have hs2 : (1 : Int) ≤ (S.size : Int) := by omega
  have hs0 : 0 < S.size := by omega
  have HSL := hide (show S.size = l.length from by rw [← hS]; rfl)
  rw [hS]
  have HSE := hide hS
  have HL := hide hl
  clear hS hl h1 hk
  go_enter Try.func11, Try.ntmps11
  go_upto_region 5 with (fail)
  rw [HB0.out hs0]
  have D0 := hide (show RdF w (((w.alloc (.cells #[.int .u8 0, .int .i64 0, .int .u8 0, .string ⟨#[]⟩, .int .u64 0, .int .i64 0, .int .i64 0, .int .i64 0, .slice none 0 0] 42)).alloc (.cells #[.int .u8 0, .int .i64 0, .int .u8 0, .string ⟨#[]⟩, .int .u64 0, .int .i64 0, .int .i64 0, .int .i64 0, .slice none 0 0] 42)).alloc (.cells #[.int .u8 1, .int .i64 0, .int .u8 0, .string ⟨#[]⟩, .int .u64 0, .int .i64 0, .int .i64 0, .int .i64 0, .slice none 0 0] 42)) w.heap.size (w.heap.size + 1) (w.heap.size + 2) #[.int .u8 1, .int .i64 0, .int .u8 0, .string ⟨#[]⟩, .int .u64 0, .int .i64 0, .int .i64 0, .int .i64 0, .slice none 0 0] from RdF.mk3 1)
  generalize ((w.alloc (.cells #[.int .u8 0, .int .i64 0, .int .u8 0, .string ⟨#[]⟩, .int .u64 0, .int .i64 0, .int .i64 0, .int .i64 0, .slice none 0 0] 42)).alloc (.cells #[.int .u8 0, .int .i64 0, .int .u8 0, .string ⟨#[]⟩, .int .u64 0, .int .i64 0, .int .i64 0, .int .i64 0, .slice none 0 0] 42)).alloc (.cells #[.int .u8 1, .int .i64 0, .int .u8 0, .string ⟨#[]⟩, .int .u64 0, .int .i64 0, .int .i64 0, .int .i64 0, .slice none 0 0] 42) = W0 at *
  generalize w.heap.size + 2 = rb at D0 ⊢
  generalize w.heap.size + 1 = nb at D0 ⊢
  generalize hra : w.heap.size = ra at D0 ⊢
  clear hra HB0
  go_upto_region 6 with (fail)
  rw [HX1.out]
  clear HX1 hs2 hs0
  go_loop [6] (fun t => ∃ m : Nat, (m = 0 ∨ (bs (l.drop 1 ++ List.replicate m 0)).size ≤ 24) ∧ t = .string (bs (l.drop 1 ++ List.replicate m 0))) (fun t => 24 - lenV t)
  case atStart => exact ⟨0, Or.inl rfl, by rw [List.replicate_zero, List.append_nil]⟩
  case round =>
    obtain ⟨m, hm, rfl⟩ := hrel
    have HNX := hide (show bs (l.drop 1 ++ List.replicate m 0) ++ ⟨#[0]⟩ = bs (l.drop 1 ++ List.replicate (m + 1) 0) from (bs_app _ [0]).trans (by rw [List.append_assoc, List.replicate_succ']))
    have HPD := hide (fun h : 24 ≤ (bs (l.drop 1 ++ List.replicate m 0)).size => PadOf.mk (l := l) h ⟨m, rfl⟩)
    obtain ⟨X, hX⟩ : ∃ X, bs (l.drop 1 ++ List.replicate m 0) = X := ⟨_, rfl⟩
    have HXX := hide hX
    rw [hX] at HNX HPD ⊢
    clear hX hm
    by_cases hlt : (X.size : Int) < 24
    · have hsm : ¬ 9223372036854775807 < X.size + 1 := by omega
      go_wp2_with fail
      go_round
      case rel => exact ⟨m + 1, Or.inr (by rw [← HNX.out]; show (X ++ ⟨#[0]⟩).size ≤ 24; rw [ByteArray.size_append]; show X.size + 1 ≤ 24; omega), congrArg Value.string HNX.out⟩
      case measure => show 24 - (X ++ ⟨#[0]⟩).size < 24 - X.size; rw [ByteArray.size_append]; show 24 - (X.size + 1) < _; omega
    · have HPP := hide (HPD.out (by omega))
      clear HNX HPD HXX
      have hx24 : (24 : Int) ≤ (X.size : Int) := by omega
      have hn24 : 24 ≤ X.size := by omega
      obtain ⟨n2, hn2⟩ : ∃ x : Nat, getN (X.extract 0 2).data.toList = x := ⟨_, rfl⟩
      have hbn2 : n2 < 65536 := by rw [← hn2]; exact num_lt X 0 2 2 (by omega) (by omega)
      have HCn2 := hide (fun V => rnumber_any (X.extract 0 2) (num_sz X 0 2 (by omega)) V)
      rw [hn2] at HCn2
      have HVn2 := hide (fun h : 3 ≤ l.length => show n2 = fl l 1 2 from by rw [← hn2]; exact pad_fl HPP.out 0 2 h)
      have hcn2 : (2 : Int) ≤ (X.size : Int) := by omega
      clear hn2
      obtain ⟨hi1, hi2⟩ := wr_i64 n2 (by omega)
      have hx2 : 2 < X.size := by omega
      have hx3 : 3 < X.size := by omega
      obtain ⟨u2, hu2⟩ : ∃ x : Nat, (X[2]).toNat = x := ⟨_, rfl⟩
      obtain ⟨u3, hu3⟩ : ∃ x : Nat, (X[3]).toNat = x := ⟨_, rfl⟩
      have hbu2 : u2 < 256 := by rw [← hu2]; exact (X[2]).toNat_lt
      have hbu3 : u3 < 256 := by rw [← hu3]; exact (X[3]).toNat_lt
      have HU2 := hide hu2
      have HU3 := hide hu3
      have HVu2 := hide (fun h : 3 < l.length => show u2 = fl l 3 1 from by rw [← hu2, byte_fl l 3 h]; exact pad_byte HPP.out 2 h hx2)
      have HVu3 := hide (fun h : 4 < l.length => show u3 = (l.getD 4 0).toNat from by rw [← hu3]; exact pad_byte HPP.out 3 h hx3)
      have HW3 := hide (wr_i64 u3 (by omega)).1
      have HW6 := hide (wr_i64 u3 (by omega)).2
      have HW7 := hide (show wrap64 (5 + (u3 : Int)) = 5 + (u3 : Int) from by unfold wrap64; omega)
      have HBU := hide hbu3
      clear hbu3
      clear hu2 hu3
      have e0 := cell_of_block D0.out.box 0
      go_wp2_with fail
      refine (HCn2.out _).mono ?_
      rintro e _ ⟨rfl, rfl⟩
      go_upto_region 11 with (fail)
      have e1 := cell_of_block D0.out.box 1
      have z1 := frozen_of_block D0.out.box 1
      have D1 := hide (show RdF w (W0.setCell ⟨rb, 1, none⟩ (.int .i64 (n2 : Int))) ra nb rb #[.int .u8 1, .int .i64 (n2 : Int), .int .u8 0, .string ⟨#[]⟩, .int .u64 0, .int .i64 0, .int .i64 0, .int .i64 0, .slice none 0 0] from D0.out.store 1 (.int .i64 (n2 : Int)))
      go_upto_region 12 with (fail)
      generalize W0.setCell ⟨rb, 1, none⟩ (.int .i64 (n2 : Int)) = V1 at *
      clear e0 e1 z1 D0
      have e0 := cell_of_block D1.out.box 0
      have e2 := cell_of_block D1.out.box 2
      have z2 := frozen_of_block D1.out.box 2
      have D2 := hide (show RdF w (V1.setCell ⟨rb, 2, none⟩ (.int .u8 (u2 : Int))) ra nb rb #[.int .u8 1, .int .i64 (n2 : Int), .int .u8 (u2 : Int), .string ⟨#[]⟩, .int .u64 0, .int .i64 0, .int .i64 0, .int .i64 0, .slice none 0 0] from D1.out.store 2 (.int .u8 (u2 : Int)))
      go_upto_region 13 with (fail)
      rw [HU2.out]
      generalize V1.setCell ⟨rb, 2, none⟩ (.int .u8 (u2 : Int)) = V2 at *
      clear e0 e2 z2 D1
      have e0 := cell_of_block D2.out.box 0
      go_upto_region 14 with (fail)
      rw [HU3.out]
      (try rw [HW6.out])
      have hw7 := HW7.out
      have hbu3 := HBU.out
      by_cases hlen : (S.size : Int) = 5 + (u3 : Int)
      rotate_left
      · have HND := hide (show ¬ decO l = true from fun h => by
          have h1 := dec_len h
          rw [lenOf_1 HK.out] at h1
          have h2 := HVu3.out (by omega)
          have h3 := HSL.out
          omega)
        go_wp2_with (first | (refine wpList_rowLoad rfl 42 (.tmp 4) rfl nb rfl 42 rdZ (0, 0) _ D2.out.non Try.underlying42 rfl (by kernel_rfl) ?_) | (refine wpList_rowStore rfl 42 (.tmp 2) (.tmp 54) rfl ra rfl rdZ rfl rdZ D2.out.res (by kernel_rfl) rfl row9_oneZ ?_))
        (try simp only [Exit.inBlock, Exit.then])
        refine bodyPost_ret (res_cell2 (P := Try.prog) rfl _ _ ra 42 rdZ (0, 0) _ rfl (setRow_self _ _ _ _ _ _ D2.out.res) Try.underlying42 rfl (by kernel_rfl)) rfl ?_
        exact rdec_end_no HND.out (setRow_low D2.out.below D2.out.new.1.1 _)
      have hs5 : (5 : Int) ≤ (S.size : Int) := by omega
      have hlz : l.length = 5 + u3 := by have := HSL.out; omega
      have HNM := hide (show S.extract 5 S.size = bs (l.drop 5) from by rw [← HSE.out]; exact ext_drop l 5)
      obtain ⟨nm, hnm⟩ : ∃ x, S.extract 5 S.size = x := ⟨_, rfl⟩
      have HNE := hide hnm
      rw [hnm] at HNM
      have hnz : nm.size = u3 := by rw [HNM.out, bs_size, List.length_drop]; omega
      clear hnm
      go_upto_region 16 with (fail)
      have e3 := cell_of_block D2.out.box 3
      have z3 := frozen_of_block D2.out.box 3
      have D3 := hide (show RdF w (V2.setCell ⟨rb, 3, none⟩ (.string (S.extract 5 S.size))) ra nb rb #[.int .u8 1, .int .i64 (n2 : Int), .int .u8 (u2 : Int), .string (S.extract 5 S.size), .int .u64 0, .int .i64 0, .int .i64 0, .int .i64 0, .slice none 0 0] from D2.out.store 3 (.string (S.extract 5 S.size)))
      go_upto_region 48 with (fail)
      generalize V2.setCell ⟨rb, 3, none⟩ (.string (S.extract 5 S.size)) = V3 at *
      clear e0 e3 z3 D2
      have e0 := cell_of_block D3.out.box 0
      clear e0
      rw [HNE.out] at D3
      have e0 := cell_of_block D3.out.box 0
      have HX := hide (fun h : decO l = true => show decR l = (⟨1, 1, 0, 0, 0, (n2 : Int), (u2 : Int), nm, [], 0⟩ : RqM) from by have hq := dec_len h; rw [lenOf_1 HK.out] at hq; rw [decR_1 HK.out, ← HVn2.out (by omega), ← HVu2.out (by omega), ← HNM.out]; (try rfl))
      have HOK := hide (show RqOk (⟨1, 1, 0, 0, 0, (n2 : Int), (u2 : Int), nm, [], 0⟩ : RqM) from ⟨by show (0 : Int) ≤ 1 ∧ (1 : Int) ≤ 255; omega, by show (0 : Int) ≤ 0 ∧ (0 : Int) ≤ 18446744073709551615; omega, by show inR (0); unfold inR; omega, by show inR (0); unfold inR; omega, by show inR ((n2 : Int)); unfold inR; omega, by show (0 : Int) ≤ (u2 : Int) ∧ ((u2 : Int) : Int) ≤ 255; omega, by show nm.size ≤ _; omega, fun x hx => absurd hx (by simp), by show 0 ≤ 20; omega, by show inR (0); unfold inR; omega⟩)
      have HEN := hide (rq_enc (⟨1, 1, 0, 0, 0, (n2 : Int), (u2 : Int), nm, [], 0⟩ : RqM) HOK.out (by show nm.size ≤ 300; omega) none 0 V3 (fun i hi => absurd hi (Nat.not_lt_zero i)))
      go_wp2_with (refine wpList_rowLoad rfl 42 (.tmp 5) rfl rb rfl 42 #[.int .u8 1, .int .i64 (n2 : Int), .int .u8 (u2 : Int), .string nm, .int .u64 0, .int .i64 0, .int .i64 0, .int .i64 0, .slice none 0 0] (0, 0) _ D3.out.box Try.underlying42 rfl (by kernel_rfl) ?_)
      refine HEN.out.mono ?_
      rintro e w9 ⟨rfl, hb⟩
      have D9 := hide (D3.out.low hb)
      clear hb HEN e0
      by_cases hd : decO l = true
      · have HD := hide hd
        obtain ⟨hy1, hy2⟩ := rdec_yes hd (HX.out hd)
        rw [HSE.out] at hy2
        rw [hy1, hy2]
        clear hd hy1 hy2
        go_wp2_with (first | (refine wpList_rowLoad rfl 42 (.tmp 5) rfl rb rfl 42 #[.int .u8 1, .int .i64 (n2 : Int), .int .u8 (u2 : Int), .string nm, .int .u64 0, .int .i64 0, .int .i64 0, .int .i64 0, .slice none 0 0] (0, 0) _ D9.out.box Try.underlying42 rfl (by kernel_rfl) ?_) | (refine wpList_rowStore rfl 42 (.tmp 2) (.tmp 152) rfl ra rfl #[.int .u8 1, .int .i64 (n2 : Int), .int .u8 (u2 : Int), .string nm, .int .u64 0, .int .i64 0, .int .i64 0, .int .i64 0, .slice none 0 0] rfl rdZ D9.out.res (by kernel_rfl) rfl row9_one ?_))
        (try simp only [Exit.inBlock, Exit.then])
        refine bodyPost_ret (res_cell2 (P := Try.prog) rfl _ _ ra 42 #[.int .u8 1, .int .i64 (n2 : Int), .int .u8 (u2 : Int), .string nm, .int .u64 0, .int .i64 0, .int .i64 0, .int .i64 0, .slice none 0 0] (0, 0) _ rfl (setRow_self _ _ _ _ _ _ D9.out.res) Try.underlying42 rfl (by kernel_rfl)) rfl ?_
        exact rdec_end_yes HD.out (HX.out HD.out) none 0 (fun i hi => absurd hi (Nat.not_lt_zero i)) (setRow_low D9.out.below D9.out.new.1.1 _)
      · have HND := hide hd
        by_cases hok : encOk (⟨1, 1, 0, 0, 0, (n2 : Int), (u2 : Int), nm, [], 0⟩ : RqM) = true
        · have hne := rdec_no hd hok
          rw [HSE.out] at hne
          rw [hok]
          generalize rencS (⟨1, 1, 0, 0, 0, (n2 : Int), (u2 : Int), nm, [], 0⟩ : RqM) = u at *
          have hns := str_neN hne
          clear hd hok hne
          go_wp2_with (first | (refine wpList_rowLoad rfl 42 (.tmp 4) rfl nb rfl 42 rdZ (0, 0) _ D9.out.non Try.underlying42 rfl (by kernel_rfl) ?_) | (refine wpList_rowStore rfl 42 (.tmp 2) (.tmp 151) rfl ra rfl rdZ rfl rdZ D9.out.res (by kernel_rfl) rfl row9_oneZ ?_))
          (try simp only [Exit.inBlock, Exit.then])
          refine bodyPost_ret (res_cell2 (P := Try.prog) rfl _ _ ra 42 rdZ (0, 0) _ rfl (setRow_self _ _ _ _ _ _ D9.out.res) Try.underlying42 rfl (by kernel_rfl)) rfl ?_
          exact rdec_end_no HND.out (setRow_low D9.out.below D9.out.new.1.1 _)
        · have hof : encOk (⟨1, 1, 0, 0, 0, (n2 : Int), (u2 : Int), nm, [], 0⟩ : RqM) = false := by simpa using hok
          rw [hof]
          generalize rencS (⟨1, 1, 0, 0, 0, (n2 : Int), (u2 : Int), nm, [], 0⟩ : RqM) = u at *
          clear hd hok hof
          go_wp2_with (first | (refine wpList_rowLoad rfl 42 (.tmp 4) rfl nb rfl 42 rdZ (0, 0) _ D9.out.non Try.underlying42 rfl (by kernel_rfl) ?_) | (refine wpList_rowStore rfl 42 (.tmp 2) (.tmp 151) rfl ra rfl rdZ rfl rdZ D9.out.res (by kernel_rfl) rfl row9_oneZ ?_))
          (try simp only [Exit.inBlock, Exit.then])
          refine bodyPost_ret (res_cell2 (P := Try.prog) rfl _ _ ra 42 rdZ (0, 0) _ rfl (setRow_self _ _ _ _ _ _ D9.out.res) Try.underlying42 rfl (by kernel_rfl)) rfl ?_
          exact rdec_end_no HND.out (setRow_low D9.out.below D9.out.new.1.1 _)
end Go.Proofs.Ytkbikflincjhhaa
