/-
  Layer 28: the document's Decode, kind by kind.
-/
import Derived.Test.YtkbikflincjhhaaReqD

namespace Go.Proofs.Ytkbikflincjhhaa
set_option linter.unusedSimpArgs false
set_option linter.unusedVariables false
open Go.RowKit Go.WideShapes Go.ChangeShapes Go.ChangeAt Go.Deep
set_option maxRecDepth 100000 in
set_option maxHeartbeats 1000000 in
theorem rdec_2 (l : List UInt8) (hl : l.length ≤ 1000000) (h1 : 1 ≤ l.length) (hk : kd l = 2) (w : World) : Calls Try.prog 11 #[.string (bs l)] w (RDecIs l w) := by
  have HK := hide hk
  have HDL := hide (fun h : decO l = true => (dec_len h).trans rfl)
  have HL1 := hide h1
  obtain ⟨S, hS⟩ : ∃ S, bs l = S := ⟨_, rfl⟩
  have HB0 := hide (fun h : 0 < S.size => show ((S[0]'h).toNat : Int) = 2 from by
    subst hS
    have : ((bs l)[0]'h).toNat = kd l := by
      rw [← getElem_list _ 0 h]
      show ((l[0]'(by omega)).toNat) = _
      unfold kd
      rw [List.getD_eq_getElem?_getD, List.getElem?_eq_getElem (by omega)]; rfl
    rw [this, hk]; rfl)
  have HX1 := hide (show S.extract 1 S.size = bs (l.drop 1) from by rw [← hS]; exact ext_drop l 1)
  have hs1 : ¬ (S.size : Int) < 1 := by rw [← hS, bs_size]; omega
  have hs2 : (1 : Int) ≤ (S.size : Int) := by omega
  have hs0 : 0 < S.size := by omega
  have HSL := hide (show S.size = l.length from by rw [← hS]; rfl)
  rw [hS]
  have HSE := hide hS
  have HL := hide hl
  clear hS hl h1 hk
  go_enter Try.func11, Try.ntmps11
  go_upto_region 5 with (fail)
  rw [HB0.out hs0]
  have D0 := hide (show RdF w (((w.alloc (.cells #[.int .u8 0, .int .i64 0, .int .u8 0, .string ⟨#[]⟩, .int .u64 0, .int .i64 0, .int .i64 0, .int .i64 0, .slice none 0 0] 42)).alloc (.cells #[.int .u8 0, .int .i64 0, .int .u8 0, .string ⟨#[]⟩, .int .u64 0, .int .i64 0, .int .i64 0, .int .i64 0, .slice none 0 0] 42)).alloc (.cells #[.int .u8 2, .int .i64 0, .int .u8 0, .string ⟨#[]⟩, .int .u64 0, .int .i64 0, .int .i64 0, .int .i64 0, .slice none 0 0] 42)) w.heap.size (w.heap.size + 1) (w.heap.size + 2) #[.int .u8 2, .int .i64 0, .int .u8 0, .string ⟨#[]⟩, .int .u64 0, .int .i64 0, .int .i64 0, .int .i64 0, .slice none 0 0] from RdF.mk3 2)
  generalize ((w.alloc (.cells #[.int .u8 0, .int .i64 0, .int .u8 0, .string ⟨#[]⟩, .int .u64 0, .int .i64 0, .int .i64 0, .int .i64 0, .slice none 0 0] 42)).alloc (.cells #[.int .u8 0, .int .i64 0, .int .u8 0, .string ⟨#[]⟩, .int .u64 0, .int .i64 0, .int .i64 0, .int .i64 0, .slice none 0 0] 42)).alloc (.cells #[.int .u8 2, .int .i64 0, .int .u8 0, .string ⟨#[]⟩, .int .u64 0, .int .i64 0, .int .i64 0, .int .i64 0, .slice none 0 0] 42) = W0 at *
  generalize w.heap.size + 2 = rb at D0 ⊢
  generalize w.heap.size + 1 = nb at D0 ⊢
  generalize hra : w.heap.size = ra at D0 ⊢
  clear hra HB0
  go_upto_region 6 with (fail)
  rw [HX1.out]
  clear HX1 hs2 hs0
  go_loop [6] (fun t => ∃ m : Nat, (m = 0 ∨ (bs (l.drop 1 ++ List.replicate m 0)).size ≤ 24) ∧ t = .string (bs (l.drop 1 ++ List.replicate m 0))) (fun t => 24 - lenV t)
  case atStart => exact ⟨0, Or.inl rfl, by rw [List.replicate_zero, List.append_nil]⟩
  case round =>
    obtain ⟨m, hm, rfl⟩ := hrel
    have HNX := hide (show bs (l.drop 1 ++ List.replicate m 0) ++ ⟨#[0]⟩ = bs (l.drop 1 ++ List.replicate (m + 1) 0) from (bs_app _ [0]).trans (by rw [List.append_assoc, List.replicate_succ']))
    have HPD := hide (fun h : 24 ≤ (bs (l.drop 1 ++ List.replicate m 0)).size => PadOf.mk (l := l) h ⟨m, rfl⟩)
    obtain ⟨X, hX⟩ : ∃ X, bs (l.drop 1 ++ List.replicate m 0) = X := ⟨_, rfl⟩
    have HXX := hide hX
    rw [hX] at HNX HPD ⊢
    clear hX hm
    by_cases hlt : (X.size : Int) < 24
    · have hsm : ¬ 9223372036854775807 < X.size + 1 := by omega
      go_wp2_with fail
      go_round
      case rel => exact ⟨m + 1, Or.inr (by rw [← HNX.out]; show (X ++ ⟨#[0]⟩).size ≤ 24; rw [ByteArray.size_append]; show X.size + 1 ≤ 24; omega), congrArg Value.string HNX.out⟩
      case measure => show 24 - (X ++ ⟨#[0]⟩).size < 24 - X.size; rw [ByteArray.size_append]; show 24 - (X.size + 1) < _; omega
    · have HPP := hide (HPD.out (by omega))
      clear HNX HPD HXX
      have hx24 : (24 : Int) ≤ (X.size : Int) := by omega
      have hn24 : 24 ≤ X.size := by omega
      have e0 := cell_of_block D0.out.box 0
      have HX := hide (fun h : decO l = true => show decR l = (⟨2, 2, 0, 0, 0, 0, 0, ⟨#[]⟩, [], 0⟩ : RqM) from by have hq := dec_len h; rw [lenOf_0 (by rw [HK.out]; decide)] at hq; rw [decR_2 HK.out]; (try rfl))
      have HOK := hide (show RqOk (⟨2, 2, 0, 0, 0, 0, 0, ⟨#[]⟩, [], 0⟩ : RqM) from ⟨by show (0 : Int) ≤ 2 ∧ (2 : Int) ≤ 255; omega, by show (0 : Int) ≤ 0 ∧ (0 : Int) ≤ 18446744073709551615; omega, by show inR (0); unfold inR; omega, by show inR (0); unfold inR; omega, by show inR (0); unfold inR; omega, by show (0 : Int) ≤ 0 ∧ (0 : Int) ≤ 255; omega, by show 0 ≤ 9223372036854775807; omega, fun x hx => absurd hx (by simp), by show 0 ≤ 20; omega, by show inR (0); unfold inR; omega⟩)
      have HEN := hide (rq_enc (⟨2, 2, 0, 0, 0, 0, 0, ⟨#[]⟩, [], 0⟩ : RqM) HOK.out (by show 0 ≤ 300; omega) none 0 W0 (fun i hi => absurd hi (Nat.not_lt_zero i)))
      go_wp2_with (refine wpList_rowLoad rfl 42 (.tmp 5) rfl rb rfl 42 #[.int .u8 2, .int .i64 0, .int .u8 0, .string ⟨#[]⟩, .int .u64 0, .int .i64 0, .int .i64 0, .int .i64 0, .slice none 0 0] (0, 0) _ D0.out.box Try.underlying42 rfl (by kernel_rfl) ?_)
      refine HEN.out.mono ?_
      rintro e w9 ⟨rfl, hb⟩
      have D9 := hide (D0.out.low hb)
      clear hb HEN e0
      by_cases hd : decO l = true
      · have HD := hide hd
        obtain ⟨hy1, hy2⟩ := rdec_yes hd (HX.out hd)
        rw [HSE.out] at hy2
        rw [hy1, hy2]
        clear hd hy1 hy2
        go_wp2_with (first | (refine wpList_rowLoad rfl 42 (.tmp 5) rfl rb rfl 42 #[.int .u8 2, .int .i64 0, .int .u8 0, .string ⟨#[]⟩, .int .u64 0, .int .i64 0, .int .i64 0, .int .i64 0, .slice none 0 0] (0, 0) _ D9.out.box Try.underlying42 rfl (by kernel_rfl) ?_) | (refine wpList_rowStore rfl 42 (.tmp 2) (.tmp 152) rfl ra rfl #[.int .u8 2, .int .i64 0, .int .u8 0, .string ⟨#[]⟩, .int .u64 0, .int .i64 0, .int .i64 0, .int .i64 0, .slice none 0 0] rfl rdZ D9.out.res (by kernel_rfl) rfl row9_one ?_))
        (try simp only [Exit.inBlock, Exit.then])
        refine bodyPost_ret (res_cell2 (P := Try.prog) rfl _ _ ra 42 #[.int .u8 2, .int .i64 0, .int .u8 0, .string ⟨#[]⟩, .int .u64 0, .int .i64 0, .int .i64 0, .int .i64 0, .slice none 0 0] (0, 0) _ rfl (setRow_self _ _ _ _ _ _ D9.out.res) Try.underlying42 rfl (by kernel_rfl)) rfl ?_
        exact rdec_end_yes HD.out (HX.out HD.out) none 0 (fun i hi => absurd hi (Nat.not_lt_zero i)) (setRow_low D9.out.below D9.out.new.1.1 _)
      · have HND := hide hd
        by_cases hok : encOk (⟨2, 2, 0, 0, 0, 0, 0, ⟨#[]⟩, [], 0⟩ : RqM) = true
        · have hne := rdec_no hd hok
          rw [HSE.out] at hne
          rw [hok]
          generalize rencS (⟨2, 2, 0, 0, 0, 0, 0, ⟨#[]⟩, [], 0⟩ : RqM) = u at *
          have hns := str_neN hne
          clear hd hok hne
          go_wp2_with (first | (refine wpList_rowLoad rfl 42 (.tmp 4) rfl nb rfl 42 rdZ (0, 0) _ D9.out.non Try.underlying42 rfl (by kernel_rfl) ?_) | (refine wpList_rowStore rfl 42 (.tmp 2) (.tmp 151) rfl ra rfl rdZ rfl rdZ D9.out.res (by kernel_rfl) rfl row9_oneZ ?_))
          (try simp only [Exit.inBlock, Exit.then])
          refine bodyPost_ret (res_cell2 (P := Try.prog) rfl _ _ ra 42 rdZ (0, 0) _ rfl (setRow_self _ _ _ _ _ _ D9.out.res) Try.underlying42 rfl (by kernel_rfl)) rfl ?_
          exact rdec_end_no HND.out (setRow_low D9.out.below D9.out.new.1.1 _)
        · have hof : encOk (⟨2, 2, 0, 0, 0, 0, 0, ⟨#[]⟩, [], 0⟩ : RqM) = false := by simpa using hok
          rw [hof]
          generalize rencS (⟨2, 2, 0, 0, 0, 0, 0, ⟨#[]⟩, [], 0⟩ : RqM) = u at *
          clear hd hok hof
          go_wp2_with (first | (refine wpList_rowLoad rfl 42 (.tmp 4) rfl nb rfl 42 rdZ (0, 0) _ D9.out.non Try.underlying42 rfl (by kernel_rfl) ?_) | (refine wpList_rowStore rfl 42 (.tmp 2) (.tmp 151) rfl ra rfl rdZ rfl rdZ D9.out.res (by kernel_rfl) rfl row9_oneZ ?_))
          (try simp only [Exit.inBlock, Exit.then])
          refine bodyPost_ret (res_cell2 (P := Try.prog) rfl _ _ ra 42 rdZ (0, 0) _ rfl (setRow_self _ _ _ _ _ _ D9.out.res) Try.underlying42 rfl (by kernel_rfl)) rfl ?_
          exact rdec_end_no HND.out (setRow_low D9.out.below D9.out.new.1.1 _)
set_option maxRecDepth 100000 in
set_option maxHeartbeats 1000000 in
theorem rdec_3 (l : List UInt8) (hl : l.length ≤ 1000000) (h1 : 1 ≤ l.length) (hk : kd l = 3) (w : World) : Calls Try.prog 11 #[.string (bs l)] w (RDecIs l w) := by
  have HK := hide hk
  have HDL := hide (fun h : decO l = true => (dec_len h).trans rfl)
  have HL1 := hide h1
  obtain ⟨S, hS⟩ : ∃ S, bs l = S := ⟨_, rfl⟩
  have HB0 := hide (fun h : 0 < S.size => show ((S[0]'h).toNat : Int) = 3 from by
    subst hS
    have : ((bs l)[0]'h).toNat = kd l := by
      rw [← getElem_list _ 0 h]
      show ((l[0]'(by omega)).toNat) = _
      unfold kd
      rw [List.getD_eq_getElem?_getD, List.getElem?_eq_getElem (by omega)]; rfl
    rw [this, hk]; rfl)
  have HX1 := hide (show S.extract 1 S.size = bs (l.drop 1) from by rw [← hS]; exact ext_drop l 1)
  have hs1 : ¬ (S.size : Int) < 1 := by rw [← hS, bs_size]; omega
  have hs2 : (1 : Int) ≤ (S.size : Int) := by omega
  have hs0 : 0 < S.size := by omega
  have HSL := hide (show S.size = l.length from by rw [← hS]; rfl)
  rw [hS]
  have HSE := hide hS
  have HL := hide hl
  clear hS hl h1 hk
  go_enter Try.func11, Try.ntmps11
  go_upto_region 5 with (fail)
  rw [HB0.out hs0]
  have D0 := hide (show RdF w (((w.alloc (.cells #[.int .u8 0, .int .i64 0, .int .u8 0, .string ⟨#[]⟩, .int .u64 0, .int .i64 0, .int .i64 0, .int .i64 0, .slice none 0 0] 42)).alloc (.cells #[.int .u8 0, .int .i64 0, .int .u8 0, .string ⟨#[]⟩, .int .u64 0, .int .i64 0, .int .i64 0, .int .i64 0, .slice none 0 0] 42)).alloc (.cells #[.int .u8 3, .int .i64 0, .int .u8 0, .string ⟨#[]⟩, .int .u64 0, .int .i64 0, .int .i64 0, .int .i64 0, .slice none 0 0] 42)) w.heap.size (w.heap.size + 1) (w.heap.size + 2) #[.int .u8 3, .int .i64 0, .int .u8 0, .string ⟨#[]⟩, .int .u64 0, .int .i64 0, .int .i64 0, .int .i64 0, .slice none 0 0] from RdF.mk3 3)
  generalize ((w.alloc (.cells #[.int .u8 0, .int .i64 0, .int .u8 0, .string ⟨#[]⟩, .int .u64 0, .int .i64 0, .int .i64 0, .int .i64 0, .slice none 0 0] 42)).alloc (.cells #[.int .u8 0, .int .i64 0, .int .u8 0, .string ⟨#[]⟩, .int .u64 0, .int .i64 0, .int .i64 0, .int .i64 0, .slice none 0 0] 42)).alloc (.cells #[.int .u8 3, .int .i64 0, .int .u8 0, .string ⟨#[]⟩, .int .u64 0, .int .i64 0, .int .i64 0, .int .i64 0, .slice none 0 0] 42) = W0 at *
  generalize w.heap.size + 2 = rb at D0 ⊢
  generalize w.heap.size + 1 = nb at D0 ⊢
  generalize hra : w.heap.size = ra at D0 ⊢
  clear hra HB0
  go_upto_region 6 with (fail)
  rw [HX1.out]
  clear HX1 hs2 hs0
  go_loop [6] (fun t => ∃ m : Nat, (m = 0 ∨ (bs (l.drop 1 ++ List.replicate m 0)).size ≤ 24) ∧ t = .string (bs (l.drop 1 ++ List.replicate m 0))) (fun t => 24 - lenV t)
  case atStart => exact ⟨0, Or.inl rfl, by rw [List.replicate_zero, List.append_nil]⟩
  case round =>
    obtain ⟨m, hm, rfl⟩ := hrel
    have HNX := hide (show bs (l.drop 1 ++ List.replicate m 0) ++ ⟨#[0]⟩ = bs (l.drop 1 ++ List.replicate (m + 1) 0) from (bs_app _ [0]).trans (by rw [List.append_assoc, List.replicate_succ']))
    have HPD := hide (fun h : 24 ≤ (bs (l.drop 1 ++ List.replicate m 0)).size => PadOf.mk (l := l) h ⟨m, rfl⟩)
    obtain ⟨X, hX⟩ : ∃ X, bs (l.drop 1 ++ List.replicate m 0) = X := ⟨_, rfl⟩
    have HXX := hide hX
    rw [hX] at HNX HPD ⊢
    clear hX hm
    by_cases hlt : (X.size : Int) < 24
    · have hsm : ¬ 9223372036854775807 < X.size + 1 := by omega
      go_wp2_with fail
      go_round
      case rel => exact ⟨m + 1, Or.inr (by rw [← HNX.out]; show (X ++ ⟨#[0]⟩).size ≤ 24; rw [ByteArray.size_append]; show X.size + 1 ≤ 24; omega), congrArg Value.string HNX.out⟩
      case measure => show 24 - (X ++ ⟨#[0]⟩).size < 24 - X.size; rw [ByteArray.size_append]; show 24 - (X.size + 1) < _; omega
    · have HPP := hide (HPD.out (by omega))
      clear HNX HPD HXX
      have hx24 : (24 : Int) ≤ (X.size : Int) := by omega
      have hn24 : 24 ≤ X.size := by omega
      have e0 := cell_of_block D0.out.box 0
      have HX := hide (fun h : decO l = true => show decR l = (⟨3, 3, 0, 0, 0, 0, 0, ⟨#[]⟩, [], 0⟩ : RqM) from by have hq := dec_len h; rw [lenOf_0 (by rw [HK.out]; decide)] at hq; rw [decR_3 HK.out]; (try rfl))
      have HOK := hide (show RqOk (⟨3, 3, 0, 0, 0, 0, 0, ⟨#[]⟩, [], 0⟩ : RqM) from ⟨by show (0 : Int) ≤ 3 ∧ (3 : Int) ≤ 255; omega, by show (0 : Int) ≤ 0 ∧ (0 : Int) ≤ 18446744073709551615; omega, by show inR (0); unfold inR; omega, by show inR (0); unfold inR; omega, by show inR (0); unfold inR; omega, by show (0 : Int) ≤ 0 ∧ (0 : Int) ≤ 255; omega, by show 0 ≤ 9223372036854775807; omega, fun x hx => absurd hx (by simp), by show 0 ≤ 20; omega, by show inR (0); unfold inR; omega⟩)
      have HEN := hide (rq_enc (⟨3, 3, 0, 0, 0, 0, 0, ⟨#[]⟩, [], 0⟩ : RqM) HOK.out (by show 0 ≤ 300; omega) none 0 W0 (fun i hi => absurd hi (Nat.not_lt_zero i)))
      go_wp2_with (refine wpList_rowLoad rfl 42 (.tmp 5) rfl rb rfl 42 #[.int .u8 3, .int .i64 0, .int .u8 0, .string ⟨#[]⟩, .int .u64 0, .int .i64 0, .int .i64 0, .int .i64 0, .slice none 0 0] (0, 0) _ D0.out.box Try.underlying42 rfl (by kernel_rfl) ?_)
      refine HEN.out.mono ?_
      rintro e w9 ⟨rfl, hb⟩
      have D9 := hide (D0.out.low hb)
      clear hb HEN e0
      by_cases hd : decO l = true
      · have HD := hide hd
        obtain ⟨hy1, hy2⟩ := rdec_yes hd (HX.out hd)
        rw [HSE.out] at hy2
        rw [hy1, hy2]
        clear hd hy1 hy2
        go_wp2_with (first | (refine wpList_rowLoad rfl 42 (.tmp 5) rfl rb rfl 42 #[.int .u8 3, .int .i64 0, .int .u8 0, .string ⟨#[]⟩, .int .u64 0, .int .i64 0, .int .i64 0, .int .i64 0, .slice none 0 0] (0, 0) _ D9.out.box Try.underlying42 rfl (by kernel_rfl) ?_) | (refine wpList_rowStore rfl 42 (.tmp 2) (.tmp 152) rfl ra rfl #[.int .u8 3, .int .i64 0, .int .u8 0, .string ⟨#[]⟩, .int .u64 0, .int .i64 0, .int .i64 0, .int .i64 0, .slice none 0 0] rfl rdZ D9.out.res (by kernel_rfl) rfl row9_one ?_))
        (try simp only [Exit.inBlock, Exit.then])
        refine bodyPost_ret (res_cell2 (P := Try.prog) rfl _ _ ra 42 #[.int .u8 3, .int .i64 0, .int .u8 0, .string ⟨#[]⟩, .int .u64 0, .int .i64 0, .int .i64 0, .int .i64 0, .slice none 0 0] (0, 0) _ rfl (setRow_self _ _ _ _ _ _ D9.out.res) Try.underlying42 rfl (by kernel_rfl)) rfl ?_
        exact rdec_end_yes HD.out (HX.out HD.out) none 0 (fun i hi => absurd hi (Nat.not_lt_zero i)) (setRow_low D9.out.below D9.out.new.1.1 _)
      · have HND := hide hd
        by_cases hok : encOk (⟨3, 3, 0, 0, 0, 0, 0, ⟨#[]⟩, [], 0⟩ : RqM) = true
        · have hne := rdec_no hd hok
          rw [HSE.out] at hne
          rw [hok]
          generalize rencS (⟨3, 3, 0, 0, 0, 0, 0, ⟨#[]⟩, [], 0⟩ : RqM) = u at *
          have hns := str_neN hne
          clear hd hok hne
          go_wp2_with (first | (refine wpList_rowLoad rfl 42 (.tmp 4) rfl nb rfl 42 rdZ (0, 0) _ D9.out.non Try.underlying42 rfl (by kernel_rfl) ?_) | (refine wpList_rowStore rfl 42 (.tmp 2) (.tmp 151) rfl ra rfl rdZ rfl rdZ D9.out.res (by kernel_rfl) rfl row9_oneZ ?_))
          (try simp only [Exit.inBlock, Exit.then])
          refine bodyPost_ret (res_cell2 (P := Try.prog) rfl _ _ ra 42 rdZ (0, 0) _ rfl (setRow_self _ _ _ _ _ _ D9.out.res) Try.underlying42 rfl (by kernel_rfl)) rfl ?_
          exact rdec_end_no HND.out (setRow_low D9.out.below D9.out.new.1.1 _)
        · have hof : encOk (⟨3, 3, 0, 0, 0, 0, 0, ⟨#[]⟩, [], 0⟩ : RqM) = false := by simpa using hok
          rw [hof]
          generalize rencS (⟨3, 3, 0, 0, 0, 0, 0, ⟨#[]⟩, [], 0⟩ : RqM) = u at *
          clear hd hok hof
          go_wp2_with (first | (refine wpList_rowLoad rfl 42 (.tmp 4) rfl nb rfl 42 rdZ (0, 0) _ D9.out.non Try.underlying42 rfl (by kernel_rfl) ?_) | (refine wpList_rowStore rfl 42 (.tmp 2) (.tmp 151) rfl ra rfl rdZ rfl rdZ D9.out.res (by kernel_rfl) rfl row9_oneZ ?_))
          (try simp only [Exit.inBlock, Exit.then])
          refine bodyPost_ret (res_cell2 (P := Try.prog) rfl _ _ ra 42 rdZ (0, 0) _ rfl (setRow_self _ _ _ _ _ _ D9.out.res) Try.underlying42 rfl (by kernel_rfl)) rfl ?_
          exact rdec_end_no HND.out (setRow_low D9.out.below D9.out.new.1.1 _)
set_option maxRecDepth 100000 in
set_option maxHeartbeats 1000000 in
theorem rdec_13 (l : List UInt8) (hl : l.length ≤ 1000000) (h1 : 1 ≤ l.length) (hk : kd l = 13) (w : World) : Calls Try.prog 11 #[.string (bs l)] w (RDecIs l w) := by
  have HK := hide hk
  have HDL := hide (fun h : decO l = true => (dec_len h).trans rfl)
  have HL1 := hide h1
  obtain ⟨S, hS⟩ : ∃ S, bs l = S := ⟨_, rfl⟩
  have HB0 := hide (fun h : 0 < S.size => show ((S[0]'h).toNat : Int) = 13 from by
    subst hS
    have : ((bs l)[0]'h).toNat = kd l := by
      rw [← getElem_list _ 0 h]
      show ((l[0]'(by omega)).toNat) = _
      unfold kd
      rw [List.getD_eq_getElem?_getD, List.getElem?_eq_getElem (by omega)]; rfl
    rw [this, hk]; rfl)
  have HX1 := hide (show S.extract 1 S.size = bs (l.drop 1) from by rw [← hS]; exact ext_drop l 1)
  have hs1 : ¬ (S.size : Int) < 1 := by rw [← hS, bs_size]; omega
  have hs2 : (1 : Int) ≤ (S.size : Int) := by omega
  have hs0 : 0 < S.size := by omega
  have HSL := hide (show S.size = l.length from by rw [← hS]; rfl)
  rw [hS]
  have HSE := hide hS
  have HL := hide hl
  clear hS hl h1 hk
  go_enter Try.func11, Try.ntmps11
  go_upto_region 5 with (fail)
  rw [HB0.out hs0]
  have D0 := hide (show RdF w (((w.alloc (.cells #[.int .u8 0, .int .i64 0, .int .u8 0, .string ⟨#[]⟩, .int .u64 0, .int .i64 0, .int .i64 0, .int .i64 0, .slice none 0 0] 42)).alloc (.cells #[.int .u8 0, .int .i64 0, .int .u8 0, .string ⟨#[]⟩, .int .u64 0, .int .i64 0, .int .i64 0, .int .i64 0, .slice none 0 0] 42)).alloc (.cells #[.int .u8 13, .int .i64 0, .int .u8 0, .string ⟨#[]⟩, .int .u64 0, .int .i64 0, .int .i64 0, .int .i64 0, .slice none 0 0] 42)) w.heap.size (w.heap.size + 1) (w.heap.size + 2) #[.int .u8 13, .int .i64 0, .int .u8 0, .string ⟨#[]⟩, .int .u64 0, .int .i64 0, .int .i64 0, .int .i64 0, .slice none 0 0] from RdF.mk3 13)
  generalize ((w.alloc (.cells #[.int .u8 0, .int .i64 0, .int .u8 0, .string ⟨#[]⟩, .int .u64 0, .int .i64 0, .int .i64 0, .int .i64 0, .slice none 0 0] 42)).alloc (.cells #[.int .u8 0, .int .i64 0, .int .u8 0, .string ⟨#[]⟩, .int .u64 0, .int .i64 0, .int .i64 0, .int .i64 0, .slice none 0 0] 42)).alloc (.cells #[.int .u8 13, .int .i64 0, .int .u8 0, .string ⟨#[]⟩, .int .u64 0, .int .i64 0, .int .i64 0, .int .i64 0, .slice none 0 0] 42) = W0 at *
  generalize w.heap.size + 2 = rb at D0 ⊢
  generalize w.heap.size + 1 = nb at D0 ⊢
  generalize hra : w.heap.size = ra at D0 ⊢
  clear hra HB0
  go_upto_region 6 with (fail)
  rw [HX1.out]
  clear HX1 hs2 hs0
  go_loop [6] (fun t => ∃ m : Nat, (m = 0 ∨ (bs (l.drop 1 ++ List.replicate m 0)).size ≤ 24) ∧ t = .string (bs (l.drop 1 ++ List.replicate m 0))) (fun t => 24 - lenV t)
  case atStart => exact ⟨0, Or.inl rfl, by rw [List.replicate_zero, List.append_nil]⟩
  case round =>
    obtain ⟨m, hm, rfl⟩ := hrel
    have HNX := hide (show bs (l.drop 1 ++ List.replicate m 0) ++ ⟨#[0]⟩ = bs (l.drop 1 ++ List.replicate (m + 1) 0) from (bs_app _ [0]).trans (by rw [List.append_assoc, List.replicate_succ']))
    have HPD := hide (fun h : 24 ≤ (bs (l.drop 1 ++ List.replicate m 0)).size => PadOf.mk (l := l) h ⟨m, rfl⟩)
    obtain ⟨X, hX⟩ : ∃ X, bs (l.drop 1 ++ List.replicate m 0) = X := ⟨_, rfl⟩
    have HXX := hide hX
    rw [hX] at HNX HPD ⊢
    clear hX hm
    by_cases hlt : (X.size : Int) < 24
    · have hsm : ¬ 9223372036854775807 < X.size + 1 := by omega
      go_wp2_with fail
      go_round
      case rel => exact ⟨m + 1, Or.inr (by rw [← HNX.out]; show (X ++ ⟨#[0]⟩).size ≤ 24; rw [ByteArray.size_append]; show X.size + 1 ≤ 24; omega), congrArg Value.string HNX.out⟩
      case measure => show 24 - (X ++ ⟨#[0]⟩).size < 24 - X.size; rw [ByteArray.size_append]; show 24 - (X.size + 1) < _; omega
    · have HPP := hide (HPD.out (by omega))
      clear HNX HPD HXX
      have hx24 : (24 : Int) ≤ (X.size : Int) := by omega
      have hn24 : 24 ≤ X.size := by omega
      have e0 := cell_of_block D0.out.box 0
      have HX := hide (fun h : decO l = true => show decR l = (⟨13, 0, 0, 0, 0, 0, 0, ⟨#[]⟩, [], 0⟩ : RqM) from by have hq := dec_len h; rw [lenOf_0 (by rw [HK.out]; decide)] at hq; rw [decR_13 HK.out]; (try rfl))
      have HOK := hide (show RqOk (⟨13, 0, 0, 0, 0, 0, 0, ⟨#[]⟩, [], 0⟩ : RqM) from ⟨by show (0 : Int) ≤ 13 ∧ (13 : Int) ≤ 255; omega, by show (0 : Int) ≤ 0 ∧ (0 : Int) ≤ 18446744073709551615; omega, by show inR (0); unfold inR; omega, by show inR (0); unfold inR; omega, by show inR (0); unfold inR; omega, by show (0 : Int) ≤ 0 ∧ (0 : Int) ≤ 255; omega, by show 0 ≤ 9223372036854775807; omega, fun x hx => absurd hx (by simp), by show 0 ≤ 20; omega, by show inR (0); unfold inR; omega⟩)
      have HEN := hide (rq_enc (⟨13, 0, 0, 0, 0, 0, 0, ⟨#[]⟩, [], 0⟩ : RqM) HOK.out (by show 0 ≤ 300; omega) none 0 W0 (fun i hi => absurd hi (Nat.not_lt_zero i)))
      go_wp2_with (refine wpList_rowLoad rfl 42 (.tmp 5) rfl rb rfl 42 #[.int .u8 13, .int .i64 0, .int .u8 0, .string ⟨#[]⟩, .int .u64 0, .int .i64 0, .int .i64 0, .int .i64 0, .slice none 0 0] (0, 0) _ D0.out.box Try.underlying42 rfl (by kernel_rfl) ?_)
      refine HEN.out.mono ?_
      rintro e w9 ⟨rfl, hb⟩
      have D9 := hide (D0.out.low hb)
      clear hb HEN e0
      by_cases hd : decO l = true
      · have HD := hide hd
        obtain ⟨hy1, hy2⟩ := rdec_yes hd (HX.out hd)
        rw [HSE.out] at hy2
        rw [hy1, hy2]
        clear hd hy1 hy2
        go_wp2_with (first | (refine wpList_rowLoad rfl 42 (.tmp 5) rfl rb rfl 42 #[.int .u8 13, .int .i64 0, .int .u8 0, .string ⟨#[]⟩, .int .u64 0, .int .i64 0, .int .i64 0, .int .i64 0, .slice none 0 0] (0, 0) _ D9.out.box Try.underlying42 rfl (by kernel_rfl) ?_) | (refine wpList_rowStore rfl 42 (.tmp 2) (.tmp 152) rfl ra rfl #[.int .u8 13, .int .i64 0, .int .u8 0, .string ⟨#[]⟩, .int .u64 0, .int .i64 0, .int .i64 0, .int .i64 0, .slice none 0 0] rfl rdZ D9.out.res (by kernel_rfl) rfl row9_one ?_))
        (try simp only [Exit.inBlock, Exit.then])
        refine bodyPost_ret (res_cell2 (P := Try.prog) rfl _ _ ra 42 #[.int .u8 13, .int .i64 0, .int .u8 0, .string ⟨#[]⟩, .int .u64 0, .int .i64 0, .int .i64 0, .int .i64 0, .slice none 0 0] (0, 0) _ rfl (setRow_self _ _ _ _ _ _ D9.out.res) Try.underlying42 rfl (by kernel_rfl)) rfl ?_
        exact rdec_end_yes HD.out (HX.out HD.out) none 0 (fun i hi => absurd hi (Nat.not_lt_zero i)) (setRow_low D9.out.below D9.out.new.1.1 _)
      · have HND := hide hd
        by_cases hok : encOk (⟨13, 0, 0, 0, 0, 0, 0, ⟨#[]⟩, [], 0⟩ : RqM) = true
        · have hne := rdec_no hd hok
          rw [HSE.out] at hne
          rw [hok]
          generalize rencS (⟨13, 0, 0, 0, 0, 0, 0, ⟨#[]⟩, [], 0⟩ : RqM) = u at *
          have hns := str_neN hne
          clear hd hok hne
          go_wp2_with (first | (refine wpList_rowLoad rfl 42 (.tmp 4) rfl nb rfl 42 rdZ (0, 0) _ D9.out.non Try.underlying42 rfl (by kernel_rfl) ?_) | (refine wpList_rowStore rfl 42 (.tmp 2) (.tmp 151) rfl ra rfl rdZ rfl rdZ D9.out.res (by kernel_rfl) rfl row9_oneZ ?_))
          (try simp only [Exit.inBlock, Exit.then])
          refine bodyPost_ret (res_cell2 (P := Try.prog) rfl _ _ ra 42 rdZ (0, 0) _ rfl (setRow_self _ _ _ _ _ _ D9.out.res) Try.underlying42 rfl (by kernel_rfl)) rfl ?_
          exact rdec_end_no HND.out (setRow_low D9.out.below D9.out.new.1.1 _)
        · have hof : encOk (⟨13, 0, 0, 0, 0, 0, 0, ⟨#[]⟩, [], 0⟩ : RqM) = false := by simpa using hok
          rw [hof]
          generalize rencS (⟨13, 0, 0, 0, 0, 0, 0, ⟨#[]⟩, [], 0⟩ : RqM) = u at *
          clear hd hok hof
          go_wp2_with (first | (refine wpList_rowLoad rfl 42 (.tmp 4) rfl nb rfl 42 rdZ (0, 0) _ D9.out.non Try.underlying42 rfl (by kernel_rfl) ?_) | (refine wpList_rowStore rfl 42 (.tmp 2) (.tmp 151) rfl ra rfl rdZ rfl rdZ D9.out.res (by kernel_rfl) rfl row9_oneZ ?_))
          (try simp only [Exit.inBlock, Exit.then])
          refine bodyPost_ret (res_cell2 (P := Try.prog) rfl _ _ ra 42 rdZ (0, 0) _ rfl (setRow_self _ _ _ _ _ _ D9.out.res) Try.underlying42 rfl (by kernel_rfl)) rfl ?_
          exact rdec_end_no HND.out (setRow_low D9.out.below D9.out.new.1.1 _)
end Go.Proofs.Ytkbikflincjhhaa
