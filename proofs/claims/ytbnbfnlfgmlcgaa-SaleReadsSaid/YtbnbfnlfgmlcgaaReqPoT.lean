/-
  Layer 22: the document's Read.
-/
import Derived.Test.YtbnbfnlfgmlcgaaPoRT
--import Derived.Test.Zdbg
namespace Go.Proofs.Ytbnbfnlfgmlcgaa
set_option linter.unusedSimpArgs false
set_option linter.unusedVariables false
open Go.RowKit Go.WideShapes Go.ChangeShapes Go.ChangeAt Go.Deep

theorem getN_two (a b : UInt8) : getN [a, b] = a.toNat * 256 + b.toNat := by simp [getN]
theorem cut_toList (s : ByteArray) (a b : Nat) : (s.extract a b).data.toList = (s.data.toList.drop a).take (b - a) := by
  rw [ByteArray.data_extract, Array.toList_extract, List.extract_eq_take_drop]
theorem cnt_first (s : ByteArray) (h : 0 < s.size) : cntS s = (s[0]).toNat := by
  have hl := size_list s
  obtain ⟨x, l, e⟩ : ∃ x l, s.data.toList = x :: l := by
    cases hc : s.data.toList with
    | nil => rw [hc] at hl; simp at hl; omega
    | cons x l => exact ⟨x, l, rfl⟩
  have h0 : s[0] = x := by
    rw [← getElem_list s 0 h]
    simp [e]
  unfold cntS
  rw [cut_toList, e, h0]
  simp [last8, getN]
theorem gt_two (X : ByteArray) (hX : X.size = 10) : gt (X.extract 0 2) = ((X[0].toNat * 256 + X[1].toNat : Nat) : Int) := by
  have hl := size_list X
  obtain ⟨x0, x1, l, e⟩ : ∃ x0 x1 l, X.data.toList = x0 :: x1 :: l := by
    match hc : X.data.toList with
    | [] => rw [hc] at hl; simp at hl; omega
    | [_] => rw [hc] at hl; simp at hl; omega
    | x0 :: x1 :: l => exact ⟨x0, x1, l, rfl⟩
  have h0 : X[0] = x0 := by
    rw [← getElem_list X 0 (by omega)]
    simp [e]
  have h1 : X[1] = x1 := by
    rw [← getElem_list X 1 (by omega)]
    simp [e]
  unfold gt
  rw [cut_toList, e, h0, h1]
  show (getN (last8 [x0, x1]) : Int) = _
  rw [last8_short (by show 2 ≤ 8; decide), getN_two]
theorem gt_rest (X : ByteArray) (hX : X.size = 10) : gt (X.extract 2 10) = (getN (X.data.toList.drop 2) : Int) := by
  have hl := size_list X
  unfold gt
  rw [cut_toList, List.take_of_length_le (by rw [List.length_drop]; omega), last8_short (by rw [List.length_drop]; omega)]
theorem ln_fields (s : ByteArray) (i : Nat) (h : 11 + 10 * i ≤ s.size) : ∃ X : ByteArray, s.extract (1 + 10 * i) (11 + 10 * i) = X ∧ ∃ hX : X.size = 10,
    gt (s.extract (3 + 10 * i) (11 + 10 * i)) = (getN (X.data.toList.drop 2) : Int) ∧ gt (s.extract (1 + 10 * i) (3 + 10 * i)) = ((X[0].toNat * 256 + X[1].toNat : Nat) : Int) := by
  have hX : (s.extract (1 + 10 * i) (11 + 10 * i)).size = 10 := by rw [ByteArray.size_extract]; omega
  refine ⟨_, rfl, hX, ?_, ?_⟩
  · rw [← gt_rest _ hX, ByteArray.extract_extract]
    congr 2 <;> omega
  · rw [← gt_two _ hX, ByteArray.extract_extract]
    congr 2 <;> omega
theorem amount_step (X : ByteArray) (hX : X.size = 10) (kk : Nat) (h2 : 2 ≤ kk) (h : kk < 10) :
    IntKind.u64.wrap (IntKind.u64.wrap (256 * (getN ((X.data.toList.drop 2).take (kk - 2)) : Int)) + IntKind.u64.wrap ((X[kk]).toNat : Int)) = (getN ((X.data.toList.drop 2).take (kk + 1 - 2)) : Int) := by
  have hl := size_list X
  have hd : (X.data.toList.drop 2).length = 8 := by rw [List.length_drop]; omega
  have h3 : (X.data.toList.drop 2)[kk - 2]'(by omega) = X[kk] := by
    rw [List.getElem_drop, ← getElem_list X kk (by omega)]
    congr 1
    omega
  have hb : getN ((X.data.toList.drop 2).take (kk - 2)) < 72057594037927936 := by
    have h1 := getN_lt ((X.data.toList.drop 2).take (kk - 2))
    have h4 : 256 ^ ((X.data.toList.drop 2).take (kk - 2)).length ≤ 256 ^ 7 := Nat.pow_le_pow_right (by omega) (by rw [List.length_take]; omega)
    have h5 : (256 : Nat) ^ 7 = 72057594037927936 := by decide
    omega
  have hx := (X[kk]).toNat_lt
  rw [show kk + 1 - 2 = kk - 2 + 1 by omega, List.take_succ_eq_append_getElem (by omega), getN_snoc, h3]
  generalize getN ((X.data.toList.drop 2).take (kk - 2)) = g at *
  rw [IntKind.wrap_u64, IntKind.wrap_u64, IntKind.wrap_u64]
  omega
def rdN (s : ByteArray) : Int := if readOk s = true then ((1 + 10 * cntS s : Nat) : Int) else 0
def RReadIs (s : ByteArray) (w : World) (e : Ending) (w' : World) : Prop := ∃ a c, e = .returned (.tuple #[.slice a (rdL s).length c, .int .i64 (rdN s), .int .i64 (rdE s)]) ∧ LnTy 87 w.heap.size w' a (rdL s) ∧ Below w.heap.size w w'
theorem rread_no (s : ByteArray) (w : World) (h : readOk s = false) : RReadIs s w (.returned (.tuple #[.slice none 0 0, .int .i64 0, .int .i64 4])) w := by
  have e1 : rdL s = [] := by unfold rdL; rw [h]; rfl
  have e2 : rdN s = 0 := by unfold rdN; rw [h]; rfl
  have e3 : rdE s = 4 := by unfold rdE; rw [h]; rfl
  exact ⟨none, 0, by rw [e1, e2, e3]; rfl, by rw [e1]; exact fun i hi => absurd hi (Nat.not_lt_zero i), Below.refl _ _⟩
set_option maxRecDepth 100000 in
set_option maxHeartbeats 400000 in
theorem rpread (s : ByteArray) (hs : s.size ≤ 1000000) (w : World) :
    Calls Try.prog 58 #[.string s] w (RReadIs s w) := by
  obtain ⟨i0, hi, hz0, hz1, hz2⟩ := info_parts (show (Try.prog.info? 87).map (fun i => (i.zero, i.size, i.bytes)) = some (some (.agg #[.int .i64 0, .int .i64 0]), 2, 16) by kernel_rfl)
  have HI := hide hi
  have HZ0 := hide hz0
  have HZ1 := hide hz1
  have HZ2 := hide hz2
  clear hi hz0 hz1 hz2
  go_enter Try.func58, Try.ntmps58
  by_cases h1 : (s.size : Int) < 1
  · have HNO := hide (rread_no s w (by unfold readOk; exact decide_eq_false (by omega)))
    go_wp2_with fail
    go_ret3
    exact HNO.out
  have hs0 : 0 < s.size := by omega
  have HCF := hide (cnt_first s hs0)
  have HNO := hide (rread_no s w)
  obtain ⟨n, hn⟩ : ∃ n, cntS s = n := ⟨_, rfl⟩
  rw [hn] at HCF
  have HNN := hide hn
  clear hn
  have hs1 : ¬ (s.size : Int) < 1 := h1
  by_cases h8 : 8 < (s[0]).toNat
  · have HNX := hide (HNO.out (by unfold readOk; rw [HNN.out, HCF.out]; exact decide_eq_false (by omega)))
    have h8i : (8 : Int) < ((s[0]).toNat : Int) := by omega
    go_wp2_with fail
    go_ret3
    exact HNX.out
  have h8i : ¬ (8 : Int) < ((s[0]).toNat : Int) := by omega
  go_upto_region 4 with (fail)
  rw [← HCF.out] at h8i ⊢
  clear h8
  have hn8 : n ≤ 8 := by omega
  clear h8i HCF
  by_cases hsz : (s.size : Int) < 1 + 10 * (n : Int)
  · have HNX := hide (HNO.out (by unfold readOk; rw [HNN.out]; exact decide_eq_false (by omega)))
    go_wp2_with fail
    go_ret3
    exact HNX.out
  have HOK := hide (show readOk s = true by unfold readOk; rw [HNN.out]; exact decide_eq_true (by omega))
  clear HNO
  go_wp2_with fail
  go_loopw [6, 7] (fun t i W => ∃ (k : Nat) (a6 : Option Addr) (c6 : Nat), k ≤ n ∧ i = .int .i64 k ∧ t = .slice a6 k c6 ∧ W.ownsRow w.heap.size 87 2 (.slice a6 k c6) k ((readL s k).flatMap lnC) ∧ Below w.heap.size w W) (fun t i _ => n - (intOf i).toNat)
  case atStart => exact ⟨0, none, 0, by omega, rfl, rfl, World.ownsRow_nil _ _ _ _, Below.refl _ _⟩
  case round =>
    obtain ⟨k, a6, c6, hk, rfl, rfl, ho, hb⟩ := hrel
    have OK := hide ho
    have BK := hide hb
    clear ho hb
    by_cases hlt : k < n
    · have hb1 : (11 : Int) + 10 * (k : Int) ≤ (s.size : Int) := by omega
      have hb2 : (1 : Int) + 10 * (k : Int) ≤ 11 + 10 * (k : Int) := by omega
      have hb3 : (0 : Int) ≤ 1 + 10 * (k : Int) := by omega
      have hb4 : (0 : Int) ≤ 11 + 10 * (k : Int) := by omega
      obtain ⟨X, hX, hX10, hf1, hf2⟩ := ln_fields s k (by omega)
      have HRN := hide (readL_next s k)
      have HLR := hide (show lnR s k = ⟨wrap64 (gt (s.extract (1 + 10 * k) (3 + 10 * k))), wrap64 (gt (s.extract (3 + 10 * k) (11 + 10 * k)))⟩ from rfl)
      rw [hf1, hf2] at HLR
      clear hf1 hf2
      have HXE := hide hX
      clear hX
      go_upto_region 11 with (fail)
      rw [HXE.out]
      clear hb1 hb2 hb3 hb4 HXE
      have HXS := hide hX10
      go_wp2_with fail
      go_loop [9, 10] (fun t i => ∃ kk : Nat, 2 ≤ kk ∧ kk ≤ 10 ∧ i = .int .i64 kk ∧ t = .int .u64 (getN ((X.data.toList.drop 2).take (kk - 2)) : Int)) (fun _ i => 10 - (intOf i).toNat)
      case atStart => exact ⟨2, by omega, by omega, rfl, rfl⟩
      case round =>
        obtain ⟨kk, hk2, hk10, rfl, rfl⟩ := hrel
        by_cases hlt2 : kk < 10
        · have HST := hide (amount_step X HXS.out kk hk2 hlt2)
          go_wp2_with fail
          go_round
          case rel => exact ⟨kk + 1, by omega, by omega, by go_num, congrArg (Value.int .u64) HST.out⟩
          case measure => simp [intOf]; omega
        · obtain rfl : kk = 10 := by omega
          rw [show ((10 : Nat) : Int) = 10 from rfl]
          have hl8 : (X.data.toList.drop 2).length = 8 := by have := size_list X; have := HXS.out; rw [List.length_drop]; omega
          have hd8 : (X.data.toList.drop 2).take (10 - 2) = X.data.toList.drop 2 := List.take_of_length_le (Nat.le_of_eq hl8)
          clear hl8
          rw [hd8]
          clear hd8
          obtain ⟨av, hav⟩ : ∃ av, getN (X.data.toList.drop 2) = av := ⟨_, rfl⟩
          rw [hav] at HLR ⊢
          obtain ⟨u0, hu0⟩ : ∃ u, X[0].toNat = u := ⟨_, rfl⟩
          obtain ⟨u1, hu1⟩ : ∃ u, X[1].toNat = u := ⟨_, rfl⟩
          rw [hu0, hu1] at HLR
          have hb0 : u0 ≤ 255 := by have := X[0].toNat_lt; omega
          have hb1 : u1 ≤ 255 := by have := X[1].toNat_lt; omega
          have HLN := hide (show lnR s k = ⟨256 * (u0 : Int) + (u1 : Int), IntKind.i64.wrap (av : Int)⟩ by
            have e1 : wrap64 ((u0 * 256 + u1 : Nat) : Int) = 256 * (u0 : Int) + (u1 : Int) := by unfold wrap64; omega
            have e2 : wrap64 (av : Int) = IntKind.i64.wrap (av : Int) := by rw [IntKind.wrap_i64]; unfold wrap64; omega
            rw [HLR.out, e1, e2])
          have hq0 : IntKind.i64.wrap (u0 : Int) = (u0 : Int) := by rw [IntKind.wrap_i64]; omega
          have hq1 : IntKind.i64.wrap (u1 : Int) = (u1 : Int) := by rw [IntKind.wrap_i64]; omega
          have hq2 : IntKind.i64.wrap (256 * (u0 : Int)) = 256 * (u0 : Int) := by rw [IntKind.wrap_i64]; omega
          have hq3 : IntKind.i64.wrap (256 * (u0 : Int) + (u1 : Int)) = 256 * (u0 : Int) + (u1 : Int) := by rw [IntKind.wrap_i64]; omega
          clear hav HLR
          go_upto_region 16 with (fail)
          have OA0 := hide (show wr.drew.ownsRow w.heap.size 87 2 (.slice a6 k c6) k ((readL s k).flatMap lnC) from OK.out)
          have BK0 := hide BK.out.drew
          clear OK BK
          refine wp_region_held_drew (S := (fun W => Below w.heap.size w W)) (by kernel_rfl) (BK0.out) (fun hHeld => ?_)
          generalize wr.drew = v0 at *
          have al := (Below.refl v0.heap.size v0).alloc (Nat.le_refl _) (.cells #[.int .i64 (256 * (u0 : Int) + (u1 : Int)), .int .i64 (IntKind.i64.wrap (av : Int))] 87)
          have XB := hide (heap_new v0 (.cells #[.int .i64 (256 * (u0 : Int) + (u1 : Int)), .int .i64 (IntKind.i64.wrap (av : Int))] 87))
          have OA2 := hide (owns_below OA0.out al)
          have B2 := hide (BK0.out.alloc BK0.out.size (.cells #[.int .i64 (256 * (u0 : Int) + (u1 : Int)), .int .i64 (IntKind.i64.wrap (av : Int))] 87))
          have hws2 : w.heap.size ≤ (v0.alloc (.cells #[.int .i64 (256 * (u0 : Int) + (u1 : Int)), .int .i64 (IntKind.i64.wrap (av : Int))] 87)).heap.size := B2.out.size
          clear al
          refine wpAnyH_take (i := 0) (oi := { dst := some 52, op := Op.move (Operand.tmp 6), type := 36, pos := "ref.go:107", after := #[], guard := none }) (v := ?_) rfl (by kernel_rfl) (by kernel_rfl) (by kernel_rfl) (fun _ _ _ h => h) (Or.inl ⟨by kernel_rfl, ?_⟩) hHeld ?_
          rotate_left
          · (intro w hSw; (try dsimp only at hSw); go_simp); try with_reducible rfl
          try simp only [Act.put, List.setIfInBounds_toArray, List.set_cons_zero, List.set_cons_succ]
          refine wpAnyH_take (i := 1) (oi := { dst := some 53, op := Op.move (Operand.tmp 8), type := 9, pos := "ref.go:107", after := #[], guard := none }) (v := ?_) rfl (by kernel_rfl) (by kernel_rfl) (by kernel_rfl) (fun _ _ _ h => h) (Or.inl ⟨by kernel_rfl, ?_⟩) hHeld ?_
          rotate_left
          · (intro w hSw; (try dsimp only at hSw); go_simp); try with_reducible rfl
          try simp only [Act.put, List.setIfInBounds_toArray, List.set_cons_zero, List.set_cons_succ]
          refine wpAnyH_take (i := 2) (oi := { dst := some 54, op := Op.index 9 (Operand.tmp 53) (Operand.const (Value.int IntKind.i64 0)), type := 5, pos := "ref.go:107", after := #[{ on := 1, ground := Ground.data }], guard := none }) (v := ?_) rfl (by kernel_rfl) (by kernel_rfl) (by kernel_rfl) (fun _ _ _ h => h) (Or.inl ⟨by kernel_rfl, ?_⟩) hHeld ?_
          rotate_left
          · (intro w hSw; (try dsimp only at hSw); go_simp); try with_reducible rfl
          try simp only [Act.put, List.setIfInBounds_toArray, List.set_cons_zero, List.set_cons_succ]
          refine wpAnyH_take (i := 3) (oi := { dst := some 55, op := Op.convert 5 3 (Operand.tmp 54), type := 3, pos := "ref.go:107", after := #[{ on := 2, ground := Ground.data }], guard := none }) (v := ?_) rfl (by kernel_rfl) (by kernel_rfl) (by kernel_rfl) (fun _ _ _ h => h) (Or.inl ⟨by kernel_rfl, ?_⟩) hHeld ?_
          rotate_left
          · (intro w hSw; (try dsimp only at hSw); go_simp); try with_reducible rfl
          try simp only [Act.put, List.setIfInBounds_toArray, List.set_cons_zero, List.set_cons_succ]
          refine wpAnyH_take (i := 4) (oi := { dst := some 56, op := Op.binOp BinOp.mul 3 (Operand.const (Value.int IntKind.i64 256)) (Operand.tmp 55) 3, type := 3, pos := "ref.go:107", after := #[{ on := 3, ground := Ground.data }], guard := none }) (v := ?_) rfl (by kernel_rfl) (by kernel_rfl) (by kernel_rfl) (fun _ _ _ h => h) (Or.inl ⟨by kernel_rfl, ?_⟩) hHeld ?_
          rotate_left
          · (intro w hSw; (try dsimp only at hSw); go_simp); try with_reducible rfl
          try simp only [Act.put, List.setIfInBounds_toArray, List.set_cons_zero, List.set_cons_succ]
          refine wpAnyH_take (i := 5) (oi := { dst := some 57, op := Op.move (Operand.tmp 8), type := 9, pos := "ref.go:107", after := #[], guard := none }) (v := ?_) rfl (by kernel_rfl) (by kernel_rfl) (by kernel_rfl) (fun _ _ _ h => h) (Or.inl ⟨by kernel_rfl, ?_⟩) hHeld ?_
          rotate_left
          · (intro w hSw; (try dsimp only at hSw); go_simp); try with_reducible rfl
          try simp only [Act.put, List.setIfInBounds_toArray, List.set_cons_zero, List.set_cons_succ]
          refine wpAnyH_take (i := 6) (oi := { dst := some 58, op := Op.index 9 (Operand.tmp 57) (Operand.const (Value.int IntKind.i64 1)), type := 5, pos := "ref.go:107", after := #[{ on := 5, ground := Ground.data }], guard := none }) (v := ?_) rfl (by kernel_rfl) (by kernel_rfl) (by kernel_rfl) (fun _ _ _ h => h) (Or.inl ⟨by kernel_rfl, ?_⟩) hHeld ?_
          rotate_left
          · (intro w hSw; (try dsimp only at hSw); go_simp); try with_reducible rfl
          try simp only [Act.put, List.setIfInBounds_toArray, List.set_cons_zero, List.set_cons_succ]
          refine wpAnyH_take (i := 7) (oi := { dst := some 59, op := Op.convert 5 3 (Operand.tmp 58), type := 3, pos := "ref.go:107", after := #[{ on := 6, ground := Ground.data }], guard := none }) (v := ?_) rfl (by kernel_rfl) (by kernel_rfl) (by kernel_rfl) (fun _ _ _ h => h) (Or.inl ⟨by kernel_rfl, ?_⟩) hHeld ?_
          rotate_left
          · (intro w hSw; (try dsimp only at hSw); go_simp); try with_reducible rfl
          try simp only [Act.put, List.setIfInBounds_toArray, List.set_cons_zero, List.set_cons_succ]
          refine wpAnyH_take (i := 8) (oi := { dst := some 60, op := Op.binOp BinOp.add 3 (Operand.tmp 56) (Operand.tmp 59) 3, type := 3, pos := "ref.go:107", after := #[{ on := 4, ground := Ground.data }, { on := 7, ground := Ground.data }], guard := none }) (v := ?_) rfl (by kernel_rfl) (by kernel_rfl) (by kernel_rfl) (fun _ _ _ h => h) (Or.inl ⟨by kernel_rfl, ?_⟩) hHeld ?_
          rotate_left
          · (intro w hSw; (try dsimp only at hSw); go_simp); try with_reducible rfl
          try simp only [Act.put, List.setIfInBounds_toArray, List.set_cons_zero, List.set_cons_succ]
          refine wpAnyH_take (i := 9) (oi := { dst := some 61, op := Op.move (Operand.tmp 9), type := 90, pos := "ref.go:107", after := #[], guard := none }) (v := ?_) rfl (by kernel_rfl) (by kernel_rfl) (by kernel_rfl) (fun _ _ _ h => h) (Or.inl ⟨by kernel_rfl, ?_⟩) hHeld ?_
          rotate_left
          · (intro w hSw; (try dsimp only at hSw); go_simp); try with_reducible rfl
          try simp only [Act.put, List.setIfInBounds_toArray, List.set_cons_zero, List.set_cons_succ]
          refine wpAnyH_take (i := 10) (oi := { dst := some 62, op := Op.convert 90 2 (Operand.tmp 61), type := 2, pos := "ref.go:107", after := #[{ on := 9, ground := Ground.data }], guard := none }) (v := ?_) rfl (by kernel_rfl) (by kernel_rfl) (by kernel_rfl) (fun _ _ _ h => h) (Or.inl ⟨by kernel_rfl, ?_⟩) hHeld ?_
          rotate_left
          · (intro w hSw; (try dsimp only at hSw); go_simp); try with_reducible rfl
          try simp only [Act.put, List.setIfInBounds_toArray, List.set_cons_zero, List.set_cons_succ]
          refine wpAnyH_take (i := 11) (oi := { dst := some 63, op := Op.build 87 #[(0, Operand.tmp 60), (1, Operand.tmp 62)], type := 87, pos := "ref.go:107", after := #[{ on := 8, ground := Ground.data }, { on := 10, ground := Ground.data }], guard := none }) (v := ?_) rfl (by kernel_rfl) (by kernel_rfl) (by kernel_rfl) (fun _ _ _ h => h) (Or.inl ⟨by kernel_rfl, ?_⟩) hHeld ?_
          rotate_left
          · (intro w hSw; (try dsimp only at hSw); go_simp); try with_reducible rfl
          try simp only [Act.put, List.setIfInBounds_toArray, List.set_cons_zero, List.set_cons_succ]
          refine wpAnyH_ready (rs := [12]) (by kernel_rfl) (by simp) (AllReadyH.cons (o := { dst := some 64, op := Op.buildSlice 36 1 #[(0, Operand.tmp 63)], type := 36, pos := "ref.go:107", after := #[{ on := 11, ground := Ground.data }], guard := none }) rfl (fun K hK => ?_) AllReadyH.nil)
          have hOld := hide hHeld
          clear hHeld
          go_simp
          skip
          (try go_wp2_with fail)
          refine hK.out _ _ (B2.out) (fun hHeld => ?_)
          clear hK K hOld
          try simp only [Act.put, List.setIfInBounds_toArray, List.set_cons_zero, List.set_cons_succ]
          refine wpAnyH_ready (rs := [13]) (by kernel_rfl) (by simp) (AllReadyH.cons (o := { dst := some 65, op := Op.call { callee := Callee.builtin Builtin.append, args := #[Operand.tmp 52, Operand.tmp 64], argTypes := #[36, 36] }, type := 36, pos := "ref.go:107", after := #[{ on := 0, ground := Ground.data }, { on := 12, ground := Ground.data }], guard := none }) rfl (fun K hK => ?_) AllReadyH.nil)
          have hOld := hide hHeld
          clear hHeld
          refine wp_append_own2 _ (.tmp 52) (.tmp 64) 36 rfl w.heap.size 87 i0 (.agg #[.int .i64 0, .int .i64 0]) 2 16 Try.underlying36 HI.out HZ0.out HZ1.out HZ2.out rfl (by decide) (.slice a6 k c6) k ((readL s k).flatMap lnC) rfl OA2.out ⟨v0.heap.size, 0, none⟩ 1 1 (by decide) (lnC ⟨256 * (u0 : Int) + (u1 : Int), IntKind.i64.wrap (av : Int)⟩) rfl rfl (cells_new XB.out) (lnC_one _) (by unfold maxLen; omega) (by omega) hws2 ?_
          intro g3 c3' w3 ho hgr hnil
          have OA3 := hide ho
          have B3 := hide (B2.out.grown hgr B2.out.size (fun jj h => (OA2.out.lt jj h).1))
          clear ho hgr hnil
          refine hK.out _ _ (B3.out) (fun hHeld => ?_)
          clear hK K hOld
          try simp only [Act.put, List.setIfInBounds_toArray, List.set_cons_zero, List.set_cons_succ]
          refine wpAnyH_take (i := 14) (oi := { dst := some 6, op := Op.assign (Operand.tmp 65), type := 36, pos := "ref.go:107", after := #[{ on := 13, ground := Ground.data }, { on := 13, ground := Ground.chain }, { on := 0, ground := Ground.phase }, { on := 1, ground := Ground.phase }, { on := 2, ground := Ground.phase }, { on := 3, ground := Ground.phase }, { on := 4, ground := Ground.phase }, { on := 5, ground := Ground.phase }, { on := 6, ground := Ground.phase }, { on := 7, ground := Ground.phase }, { on := 8, ground := Ground.phase }, { on := 9, ground := Ground.phase }, { on := 10, ground := Ground.phase }, { on := 11, ground := Ground.phase }, { on := 12, ground := Ground.phase }, { on := 13, ground := Ground.phase }], guard := none }) (v := ?_) rfl (by kernel_rfl) (by kernel_rfl) (by kernel_rfl) (fun _ _ _ h => h) (Or.inl ⟨by kernel_rfl, ?_⟩) hHeld ?_
          rotate_left
          · (intro w hSw; (try dsimp only at hSw); go_simp); try with_reducible rfl
          try simp only [Act.put, List.setIfInBounds_toArray, List.set_cons_zero, List.set_cons_succ]
          refine wpAnyH_done (by kernel_rfl) ?_ _
          clear hHeld
          go_wp2_with fail
          go_roundw
          case rel => exact ⟨k + 1, _, _, by omega, by go_num, rfl, by rw [HRN.out, HLN.out, List.flatMap_append]; simpa using OA3.out, B3.out⟩
          case measure => simp [intOf]; omega
    · obtain rfl : n = k := by omega
      have HRD := hide (show rdL s = readL s n by unfold rdL; rw [if_pos HOK.out, HNN.out])
      have HRE := hide (show rdE s = 0 by unfold rdE; rw [if_pos HOK.out])
      have HRN := hide (show rdN s = 1 + 10 * (n : Int) by unfold rdN; rw [if_pos HOK.out, HNN.out]; omega)
      go_wp2_with fail
      go_ret3
      exact ⟨a6, c6, by rw [HRD.out, HRE.out, HRN.out, readL_len]; rfl, by rw [HRD.out]; exact LnTy.of_owns (c := c6) (by rw [readL_len]; exact OK.out), BK.out⟩
end Go.Proofs.Ytbnbfnlfgmlcgaa
