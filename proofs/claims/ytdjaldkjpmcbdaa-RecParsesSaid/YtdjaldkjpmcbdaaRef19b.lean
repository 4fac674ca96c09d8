/-
  Layer 19: the document's Parse by contract.
-/
import Derived.Test.YtdjaldkjpmcbdaaRef19
namespace Go.Proofs.Ytdjaldkjpmcbdaa
set_option linter.unusedSimpArgs false
set_option linter.unusedVariables false
open Go.RowKit Go.WideShapes Go.ChangeShapes Go.ChangeAt

theorem bs_at (t : List UInt8) (i : Nat) (h : i < (bs t).size) : (bs t)[i]'h = t.getD i 0 := by
  have h2 : i < t.length := h
  have e : (bs t)[i]'h = t[i] := rfl
  rw [e]
  simp [List.getD, h2]
theorem lenR_two (t : List UInt8) (h : 7 ≤ t.length) : lenR t = 256 * (t.getD 0 0).toNat + (t.getD 1 0).toNat := by
  match t, h with
  | x :: y :: r, _ =>
    show getN [x, y] = _
    simp [getN]
    omega
theorem u8_zero (k : UInt8) : ((k.toNat : Int) == 0) = decide (k = 0) := by
  by_cases h : k = 0
  · subst h; rfl
  · rw [decide_eq_false h, beq_eq_false_iff_ne]
    intro h2
    apply h
    have : k.toNat = 0 := by omega
    exact UInt8.toNat_inj.1 this
set_option maxRecDepth 100000 in
set_option maxHeartbeats 600000 in
theorem rparse_any (s : List UInt8) (hs : s.length ≤ 1000000) (w : World) :
    Calls Try.prog 15 #[.string (bs s)] w (PIs (parseP s) w) := by
  obtain ⟨i0, hi, hz0, hz1, hz2⟩ := info_parts (show (Try.prog.info? 50).map (fun i => (i.zero, i.size, i.bytes)) = some (some (.agg #[.int .u8 0, .string ⟨#[]⟩]), 2, 24) by kernel_rfl)
  have HI := hide hi
  have HZ0 := hide hz0
  have HZ1 := hide hz1
  have HZ2 := hide hz2
  have HST := hide (parse_start s)
  clear hi hz0 hz1 hz2
  go_enter Try.func15, Try.ntmps15
  go_wp2_with fail
  go_loopw [0, 4] (fun x v W => ∃ (t : List UInt8) (acc : List Rc) (a : Option Addr) (cap : Nat), t.length ≤ s.length ∧ acc.length + t.length ≤ s.length ∧ x = .string (bs t) ∧ v = .slice a acc.length cap ∧ W.ownsRow w.heap.size 50 2 (.slice a acc.length cap) acc.length (acc.flatMap rcC) ∧ Below w.heap.size w W ∧ parseP s = (parseP t).map fun l => acc ++ l) (fun x _ _ => match x with | .string b => b.size | _ => 0)
  case atStart => exact ⟨s, [], none, 0, by omega, by simp, rfl, rfl, World.ownsRow_nil _ _ _ _, Below.refl _ _, HST.out⟩
  case round =>
    clear HST
    obtain ⟨t, acc, a, cap, hts, hat, rfl, rfl, hown, hB, hp⟩ := hrel
    have HOWN := hide hown
    have HB := hide hB
    have HP := hide hp
    clear hown hB hp
    have hlz : ((bs t).size : Int) = (t.length : Int) := by rw [bs_size]
    have HLZ := hide (bs_size t)
    by_cases hne : t = []
    · subst hne
      have HE := hide (parse_end HP.out)
      have hl0 : ¬ (0 : Int) < ((bs []).size : Int) := by rw [bs_size]; simp
      clear hlz
      generalize bs [] = S at *
      go_wp2_with fail
      go_ret2
      exact ⟨acc, a, cap, 0, rfl, .inl ⟨HE.out, rfl⟩, recs_of_owns HOWN.out, HB.out⟩
    · have htl : 0 < t.length := List.length_pos_iff.2 hne
      have hl0 : (0 : Int) < (t.length : Int) := by omega
      by_cases h0 : errR t = 0
      · have hfit := (errR_fit t h0).1
        have hso := (errR_fit t h0).2
        have HP2 := hide (parse_acc HP.out hne h0)
        have HRL := hide (show (restR t).length + 1 ≤ t.length from restR_lt t hne)
        obtain ⟨f1, f2, f3, f4⟩ := hfit
        unfold sumOk at hso
        have HFR := hide (show rcC (firstR t) = [.int .u8 ((kindR t).toNat : Int), .string (bs ((t.drop 3).take (lenR t)))] from rfl)
        have HRS := hide (show restR t = t.drop (7 + lenR t) from rfl)
        have f1' : ¬ (t.length : Int) < 7 := by omega
        obtain ⟨a0, ha0⟩ : ∃ a0 : Nat, (t.getD 0 0).toNat = a0 := ⟨_, rfl⟩
        obtain ⟨a1, ha1⟩ : ∃ a1 : Nat, (t.getD 1 0).toNat = a1 := ⟨_, rfl⟩
        have hidx0 : ∀ h : 0 < (bs t).size, ((bs t)[0]'h).toNat = a0 := fun h => by rw [bs_at t 0 h, ha0]
        have hidx1 : ∀ h : 1 < (bs t).size, ((bs t)[1]'h).toNat = a1 := fun h => by rw [bs_at t 1 h, ha1]
        have hidx2 : ∀ h : 2 < (bs t).size, (bs t)[2]'h = kindR t := fun h => bs_at t 2 h
        have hi0 : (0 : Int) < (t.length : Int) := by omega
        have hi1 : (1 : Int) < (t.length : Int) := by omega
        have hi2 : (2 : Int) < (t.length : Int) := by omega
        have hl2 := lenR_two t (by omega)
        obtain ⟨n, hn⟩ : ∃ n, lenR t = n := ⟨_, rfl⟩
        have HLN := hide hn
        have hx0 := (t.getD 0 0).toNat_lt
        have hx1 := (t.getD 1 0).toNat_lt
        rw [hn, ha0, ha1] at hl2
        rw [ha0] at hx0
        rw [ha1] at hx1
        have hnv : 256 * (a0 : Int) + (a1 : Int) = (n : Int) := by omega
        have hx0i : (a0 : Int) ≤ 255 := by omega
        have hx1i : (a1 : Int) ≤ 255 := by omega
        have hnb : (n : Int) ≤ 65535 := by omega
        have hkb : ((kindR t).toNat : Int) ≤ 255 := by have := (kindR t).toNat_lt; omega
        have hidx2i : ((kindR t).toNat : Int) = ((kindR t).toNat : Int) := rfl
        clear hl2 hx0 hx1 ha0 ha1
        rw [HLN.out] at f3 f4
        have hn1 : ¬ (2048 : Int) < (n : Int) := by omega
        have hn2 : ¬ (t.length : Int) < 7 + (n : Int) := by omega
        have hk0 : ((kindR t).toNat : Int) = 0 → False := fun h => f2 (by
          have : (kindR t).toNat = 0 := by omega
          exact UInt8.toNat_inj.1 this)
        have hk1 : (((kindR t).toNat : Int) == 0) = false := by rw [beq_eq_false_iff_ne]; exact hk0
        clear hk0
        have hto2 : (bs t).extract 0 (3 + n) = bs (t.take (3 + n)) := bs_to t _
        have hext : (bs t).extract 3 (3 + n) = bs ((t.drop 3).take n) := by rw [bs_extract, show 3 + n - 3 = n by omega]
        have hsl : (bs t).extract (3 + n) (7 + n) = bs ((t.drop (3 + n)).take 4) := by rw [bs_extract, show 7 + n - (3 + n) = 4 by omega]
        have htn1 : (3 + (n : Int)).toNat = 3 + n := by omega
        have htn2 : (7 + (n : Int)).toNat = 7 + n := by omega
        have hw3 : IntKind.i64.wrap (3 + (n : Int)) = 3 + (n : Int) := by rw [IntKind.wrap_i64]; omega
        have hw7 : IntKind.i64.wrap (7 + (n : Int)) = 7 + (n : Int) := by rw [IntKind.wrap_i64]; omega
        have hb0 : (0 : Int) ≤ 3 + (n : Int) := by omega
        have hb1 : (0 : Int) ≤ 7 + (n : Int) := by omega
        have hb2 : 3 + (n : Int) ≤ 7 + (n : Int) := by omega
        have hb3 : 7 + (n : Int) ≤ (t.length : Int) := by omega
        have hb4 : 3 + (n : Int) ≤ (t.length : Int) := by omega
        have hb5 : (3 : Int) ≤ 3 + (n : Int) := by omega
        have HSUM := hide (fun W => rsum_any (bs (t.take (3 + n))) (by rw [bs_size, List.length_take]; omega) W)
        rw [show (bs (t.take (3 + n))).data.toList = t.take (3 + n) from rfl] at HSUM
        have hcn := cN_le (t.take (3 + n))
        have HP4 := hide (fun W => rput_any (cN (t.take (3 + n)) : Int) (by omega) (by omega) 4 (by omega) (by omega) W)
        rw [show (4 : Int).toNat = 4 from rfl, Int.toNat_natCast] at HP4
        clear hcn
        rw [HLN.out] at hso
        rw [← hso] at hsl
        have hrest : (bs t).extract (7 + n) (bs t).size = bs (restR t) := by rw [HRS.out, HLN.out]; exact bs_from t _ _ (bs_size t)
        have HREST := hide hrest
        rw [HLZ.out] at hrest
        have HREST2 := hide hrest
        clear hrest
        clear hne h0 f1 f2 f3 f4 hso
        generalize bs (putL (cN (t.take (3 + n))) 4) = z at *
        rw [HLN.out] at HFR
        generalize hlsx : bs ((t.drop 3).take n) = ls at *
        clear hlsx
        have HRB := hide (bs_size (restR t))
        generalize bs t = S at *
        generalize kindR t = kk at *
        go_upto_region 5 with (fail)
        go_quiet (fail)
        go_wp2_with fail
        (try rw [htn1]); (try rw [hto2])
        refine (HSUM.out _).mono ?_
        rintro e w3 ⟨rfl, rfl⟩
        go_wp2_with fail
        refine (HP4.out _).mono ?_
        rintro e w4 ⟨rfl, hb4w⟩
        have HB4 := hide (below_trans (below_drewN' HB.out _) hb4w)
        have HO4 := hide (owns_below (show World.ownsRow (World.drewN _ _) w.heap.size 50 2 (.slice a acc.length cap) acc.length (acc.flatMap rcC) from HOWN.out) hb4w)
        clear hb4w HB HOWN HSUM HP4
        go_upto_region 12 with (fail)
        have OBv0 := hide (show w4.drew.ownsRow w.heap.size 50 2 (.slice a acc.length cap) acc.length (acc.flatMap rcC) from HO4.out)
        have BLv0 := hide HB4.out.drew
        have hacc : acc.length ≤ 1000000 := by omega
        refine wp_region_held_drew (S := (fun _ => True)) (by kernel_rfl) (trivial) (fun hHeld => ?_)
        generalize w4.drew = v0 at *
        refine wpAnyH_take (i := 0) (oi := { dst := some 51, op := Op.move (Operand.tmp 4), type := 28, pos := "ref.go:56", after := #[], guard := none }) (v := ?_) rfl (by kernel_rfl) (by kernel_rfl) (by kernel_rfl) (fun _ _ _ h => h) (Or.inl ⟨by kernel_rfl, ?_⟩) hHeld ?_
        rotate_left
        · (intro w hSw; (try dsimp only at hSw); go_simp); try with_reducible rfl
        try simp only [Act.put, List.setIfInBounds_toArray, List.set_cons_zero, List.set_cons_succ]
        refine wpAnyH_take (i := 1) (oi := { dst := some 52, op := Op.move (Operand.tmp 0), type := 9, pos := "ref.go:56", after := #[], guard := none }) (v := ?_) rfl (by kernel_rfl) (by kernel_rfl) (by kernel_rfl) (fun _ _ _ h => h) (Or.inl ⟨by kernel_rfl, ?_⟩) hHeld ?_
        rotate_left
        · (intro w hSw; (try dsimp only at hSw); go_simp); try with_reducible rfl
        try simp only [Act.put, List.setIfInBounds_toArray, List.set_cons_zero, List.set_cons_succ]
        refine wpAnyH_take (i := 2) (oi := { dst := some 53, op := Op.index 9 (Operand.tmp 52) (Operand.const (Value.int IntKind.i64 2)), type := 5, pos := "ref.go:56", after := #[{ on := 1, ground := Ground.data }], guard := none }) (v := ?_) rfl (by kernel_rfl) (by kernel_rfl) (by kernel_rfl) (fun _ _ _ h => h) (Or.inl ⟨by kernel_rfl, ?_⟩) hHeld ?_
        rotate_left
        · (intro w hSw; (try dsimp only at hSw); go_simp); try with_reducible rfl
        try simp only [Act.put, List.setIfInBounds_toArray, List.set_cons_zero, List.set_cons_succ]
        refine wpAnyH_take (i := 3) (oi := { dst := some 54, op := Op.move (Operand.tmp 0), type := 9, pos := "ref.go:56", after := #[], guard := none }) (v := ?_) rfl (by kernel_rfl) (by kernel_rfl) (by kernel_rfl) (fun _ _ _ h => h) (Or.inl ⟨by kernel_rfl, ?_⟩) hHeld ?_
        rotate_left
        · (intro w hSw; (try dsimp only at hSw); go_simp); try with_reducible rfl
        try simp only [Act.put, List.setIfInBounds_toArray, List.set_cons_zero, List.set_cons_succ]
        refine wpAnyH_take (i := 4) (oi := { dst := some 55, op := Op.move (Operand.tmp 5), type := 3, pos := "ref.go:56", after := #[], guard := none }) (v := ?_) rfl (by kernel_rfl) (by kernel_rfl) (by kernel_rfl) (fun _ _ _ h => h) (Or.inl ⟨by kernel_rfl, ?_⟩) hHeld ?_
        rotate_left
        · (intro w hSw; (try dsimp only at hSw); go_simp); try with_reducible rfl
        try simp only [Act.put, List.setIfInBounds_toArray, List.set_cons_zero, List.set_cons_succ]
        refine wpAnyH_take (i := 5) (oi := { dst := some 56, op := Op.binOp BinOp.add 3 (Operand.const (Value.int IntKind.i64 3)) (Operand.tmp 55) 3, type := 3, pos := "ref.go:56", after := #[{ on := 4, ground := Ground.data }], guard := none }) (v := ?_) rfl (by kernel_rfl) (by kernel_rfl) (by kernel_rfl) (fun _ _ _ h => h) (Or.inl ⟨by kernel_rfl, ?_⟩) hHeld ?_
        rotate_left
        · (intro w hSw; (try dsimp only at hSw); go_simp); try with_reducible rfl
        try simp only [Act.put, List.setIfInBounds_toArray, List.set_cons_zero, List.set_cons_succ]
        refine wpAnyH_take (i := 6) (oi := { dst := some 57, op := Op.slice 9 (Operand.tmp 54) (some (Operand.const (Value.int IntKind.i64 3))) (some (Operand.tmp 56)) none, type := 9, pos := "ref.go:56", after := #[{ on := 3, ground := Ground.data }, { on := 5, ground := Ground.data }], guard := none }) (v := ?_) rfl (by kernel_rfl) (by kernel_rfl) (by kernel_rfl) (fun _ _ _ h => h) (Or.inl ⟨by kernel_rfl, ?_⟩) hHeld ?_
        rotate_left
        · (intro w hSw; (try dsimp only at hSw); go_simp); try with_reducible rfl
        try simp only [Act.put, List.setIfInBounds_toArray, List.set_cons_zero, List.set_cons_succ]
        refine wpAnyH_take (i := 7) (oi := { dst := some 58, op := Op.build 50 #[(0, Operand.tmp 53), (1, Operand.tmp 57)], type := 50, pos := "ref.go:56", after := #[{ on := 2, ground := Ground.data }, { on := 6, ground := Ground.data }], guard := none }) (v := ?_) rfl (by kernel_rfl) (by kernel_rfl) (by kernel_rfl) (fun _ _ _ h => h) (Or.inl ⟨by kernel_rfl, ?_⟩) hHeld ?_
        rotate_left
        · (intro w hSw; (try dsimp only at hSw); go_simp); try with_reducible rfl
        try simp only [Act.put, List.setIfInBounds_toArray, List.set_cons_zero, List.set_cons_succ]
        refine wpAnyH_ready (rs := [8]) (by kernel_rfl) (by simp) (AllReadyH.cons (o := { dst := some 59, op := Op.buildSlice 28 1 #[(0, Operand.tmp 58)], type := 28, pos := "ref.go:56", after := #[{ on := 7, ground := Ground.data }], guard := none }) rfl (fun K hK => ?_) AllReadyH.nil)
        have hOld := hide hHeld
        clear hHeld
        go_simp
        have OBv8 := hide (OBv0.out.alloc (.cells #[.int .u8 (kk.toNat : Int), .string ls] 50))
        have BLv8 := hide (BLv0.out.alloc BLv0.out.size (.cells #[.int .u8 (kk.toNat : Int), .string ls] 50))
        have XXv8 := hide (rec_rows v0 (kk.toNat : Int) ls 50)
        generalize hq8 : World.alloc v0 (.cells #[.int .u8 (kk.toNat : Int), .string ls] 50) = v8 at *
        generalize hb8 : v0.heap.size = bx at *
        clear hq8 hb8
        (try go_wp2_with fail)
        refine hK.out _ _ (trivial) (fun hHeld => ?_)
        clear hK K hOld
        try simp only [Act.put, List.setIfInBounds_toArray, List.set_cons_zero, List.set_cons_succ]
        refine wpAnyH_ready (rs := [9]) (by kernel_rfl) (by simp) (AllReadyH.cons (o := { dst := some 60, op := Op.call { callee := Callee.builtin Builtin.append, args := #[Operand.tmp 51, Operand.tmp 59], argTypes := #[28, 28] }, type := 28, pos := "ref.go:56", after := #[{ on := 0, ground := Ground.data }, { on := 8, ground := Ground.data }], guard := none }) rfl (fun K hK => ?_) AllReadyH.nil)
        have hOld := hide hHeld
        clear hHeld
        refine wp_append_own _ (.tmp 51) (.tmp 59) 28 rfl w.heap.size 50 i0 (.agg #[.int .u8 0, .string ⟨#[]⟩]) 2 24 Try.underlying28 HI.out HZ0.out HZ1.out HZ2.out rfl (by decide) (.slice a acc.length cap) acc.length (acc.flatMap rcC) rfl OBv8.out ⟨bx, 0, none⟩ 1 1 [.int .u8 (kk.toNat : Int), .string ls] rfl rfl (row_cells XXv8.out) (one2 _ _) (by unfold maxLen; omega) (by omega) BLv8.out.size ?_
        intro vx v9 ho hgr hnil
        have OBv9 := hide ho
        have BLv9 := hide (BLv8.out.grown hgr BLv8.out.size fun q h => (OBv8.out.lt q h).1)
        clear ho hgr hnil
        refine hK.out _ _ (trivial) (fun hHeld => ?_)
        clear hK K hOld
        try simp only [Act.put, List.setIfInBounds_toArray, List.set_cons_zero, List.set_cons_succ]
        refine wpAnyH_take (i := 10) (oi := { dst := some 4, op := Op.assign (Operand.tmp 60), type := 28, pos := "ref.go:56", after := #[{ on := 9, ground := Ground.data }, { on := 9, ground := Ground.chain }, { on := 0, ground := Ground.phase }, { on := 1, ground := Ground.phase }, { on := 2, ground := Ground.phase }, { on := 3, ground := Ground.phase }, { on := 4, ground := Ground.phase }, { on := 5, ground := Ground.phase }, { on := 6, ground := Ground.phase }, { on := 7, ground := Ground.phase }, { on := 8, ground := Ground.phase }, { on := 9, ground := Ground.phase }], guard := none }) (v := ?_) rfl (by kernel_rfl) (by kernel_rfl) (by kernel_rfl) (fun _ _ _ h => h) (Or.inl ⟨by kernel_rfl, ?_⟩) hHeld ?_
        rotate_left
        · (intro w hSw; (try dsimp only at hSw); go_simp); try with_reducible rfl
        try simp only [Act.put, List.setIfInBounds_toArray, List.set_cons_zero, List.set_cons_succ]
        refine wpAnyH_done (by kernel_rfl) ?_ _
        clear hHeld
        obtain ⟨a3, c3, rfl⟩ := owns_slice_n OBv9.out
        go_wp2_with fail
        go_roundw
        case rel =>
          refine ⟨restR t, acc ++ [firstR t], a3, c3, by have := HRL.out; omega, by have := HRL.out; rw [List.length_append, List.length_singleton]; omega, by rw [HREST.out], by rw [List.length_append, List.length_singleton], ?_, BLv9.out, HP2.out⟩
          rw [List.length_append, List.length_singleton, List.flatMap_append, List.flatMap_singleton, HFR.out]
          exact OBv9.out
        case measure => simp only [HREST.out, HREST2.out, HRB.out, HLZ.out]; have := HRL.out; omega
      · have HP2 := hide (parse_stop HP.out hne h0)
        have HE0 := hide h0
        by_cases f1 : 7 ≤ t.length
        · have f1' : ¬ (t.length : Int) < 7 := by omega
          obtain ⟨a0, ha0⟩ : ∃ a0 : Nat, (t.getD 0 0).toNat = a0 := ⟨_, rfl⟩
          obtain ⟨a1, ha1⟩ : ∃ a1 : Nat, (t.getD 1 0).toNat = a1 := ⟨_, rfl⟩
          have hidx0 : ∀ h : 0 < (bs t).size, ((bs t)[0]'h).toNat = a0 := fun h => by rw [bs_at t 0 h, ha0]
          have hidx1 : ∀ h : 1 < (bs t).size, ((bs t)[1]'h).toNat = a1 := fun h => by rw [bs_at t 1 h, ha1]
          have hidx2 : ∀ h : 2 < (bs t).size, (bs t)[2]'h = kindR t := fun h => bs_at t 2 h
          have hi0 : (0 : Int) < (t.length : Int) := by omega
          have hi1 : (1 : Int) < (t.length : Int) := by omega
          have hi2 : (2 : Int) < (t.length : Int) := by omega
          have hl2 := lenR_two t (by omega)
          obtain ⟨n, hn⟩ : ∃ n, lenR t = n := ⟨_, rfl⟩
          have HLN := hide hn
          have hx0 := (t.getD 0 0).toNat_lt
          have hx1 := (t.getD 1 0).toNat_lt
          rw [hn, ha0, ha1] at hl2
          rw [ha0] at hx0
          rw [ha1] at hx1
          have hnv : 256 * (a0 : Int) + (a1 : Int) = (n : Int) := by omega
          have hx0i : (a0 : Int) ≤ 255 := by omega
          have hx1i : (a1 : Int) ≤ 255 := by omega
          have hnb : (n : Int) ≤ 65535 := by omega
          have hkb : ((kindR t).toNat : Int) ≤ 255 := by have := (kindR t).toNat_lt; omega
          have hidx2i : ((kindR t).toNat : Int) = ((kindR t).toNat : Int) := rfl
          clear hl2 hx0 hx1 ha0 ha1
          by_cases f2 : kindR t = 0
          · have hE : errR t = 4 := by unfold errR; rw [if_neg fun h => h.2.1 f2]
            rw [hE] at HP2
            have hk0' : (kindR t).toNat = 0 := by rw [f2]; rfl
            have hkI : ((kindR t).toNat : Int) = 0 := by omega
            rw [hkI] at hidx2i
            clear hkb hk0'
            go_wp2_with fail
            go_ret2
            exact ⟨[], none, 0, 4, rfl, .inr ⟨HP2.out, by decide, rfl⟩, fun i hi => absurd hi (by simp), HB.out⟩
          · by_cases f3 : n ≤ 2048
            · have hn1 : ¬ (2048 : Int) < (n : Int) := by omega
              by_cases f4 : 7 + n ≤ t.length
              · have hn2 : ¬ (t.length : Int) < 7 + (n : Int) := by omega
                have hfit : fitR t := ⟨f1, f2, by rw [HLN.out]; exact f3, by rw [HLN.out]; exact f4⟩
                have hso : ¬ sumOk t := fun h => h0 (by unfold errR; rw [if_pos hfit, if_pos h])
                have hE : errR t = 5 := by unfold errR; rw [if_pos hfit, if_neg hso]
                rw [hE] at HP2
                unfold sumOk at hso
                rw [HLN.out] at hso
                have hk0 : ((kindR t).toNat : Int) = 0 → False := fun h => f2 (by
                  have : (kindR t).toNat = 0 := by omega
                  exact UInt8.toNat_inj.1 this)
                have hk1 : (((kindR t).toNat : Int) == 0) = false := by rw [beq_eq_false_iff_ne]; exact hk0
                clear hk0
                have hto2 : (bs t).extract 0 (3 + n) = bs (t.take (3 + n)) := bs_to t _
                have hext : (bs t).extract 3 (3 + n) = bs ((t.drop 3).take n) := by rw [bs_extract, show 3 + n - 3 = n by omega]
                have hsl : (bs t).extract (3 + n) (7 + n) = bs ((t.drop (3 + n)).take 4) := by rw [bs_extract, show 7 + n - (3 + n) = 4 by omega]
                have htn1 : (3 + (n : Int)).toNat = 3 + n := by omega
                have htn2 : (7 + (n : Int)).toNat = 7 + n := by omega
                have hw3 : IntKind.i64.wrap (3 + (n : Int)) = 3 + (n : Int) := by rw [IntKind.wrap_i64]; omega
                have hw7 : IntKind.i64.wrap (7 + (n : Int)) = 7 + (n : Int) := by rw [IntKind.wrap_i64]; omega
                have hb0 : (0 : Int) ≤ 3 + (n : Int) := by omega
                have hb1 : (0 : Int) ≤ 7 + (n : Int) := by omega
                have hb2 : 3 + (n : Int) ≤ 7 + (n : Int) := by omega
                have hb3 : 7 + (n : Int) ≤ (t.length : Int) := by omega
                have hb4 : 3 + (n : Int) ≤ (t.length : Int) := by omega
                have hb5 : (3 : Int) ≤ 3 + (n : Int) := by omega
                have HSUM := hide (fun W => rsum_any (bs (t.take (3 + n))) (by rw [bs_size, List.length_take]; omega) W)
                rw [show (bs (t.take (3 + n))).data.toList = t.take (3 + n) from rfl] at HSUM
                have hcn := cN_le (t.take (3 + n))
                have HP4 := hide (fun W => rput_any (cN (t.take (3 + n)) : Int) (by omega) (by omega) 4 (by omega) (by omega) W)
                rw [show (4 : Int).toNat = 4 from rfl, Int.toNat_natCast] at HP4
                clear hcn
                have hstr := str_ne hso
                clear hso hfit hE h0 f2
                generalize bs (putL (cN (t.take (3 + n))) 4) = z at *
                generalize bs ((t.drop (3 + n)).take 4) = y at *
                generalize bs t = S at *
                go_upto_region 5 with (fail)
                go_quiet (fail)
                go_wp2_with fail
                (try rw [htn1]); (try rw [hto2])
                refine (HSUM.out _).mono ?_
                rintro e w3 ⟨rfl, rfl⟩
                go_wp2_with fail
                refine (HP4.out _).mono ?_
                rintro e w4 ⟨rfl, hb4w⟩
                have HB4 := hide (below_trans (below_drewN' HB.out _) hb4w)
                have HO4 := hide (owns_below (show World.ownsRow (World.drewN _ _) w.heap.size 50 2 (.slice a acc.length cap) acc.length (acc.flatMap rcC) from HOWN.out) hb4w)
                clear hb4w HB HOWN HSUM HP4
                go_wp2_with fail
                go_ret2
                exact ⟨[], none, 0, 5, rfl, .inr ⟨HP2.out, by decide, rfl⟩, fun i hi => absurd hi (by simp), HB4.out⟩
              · have hn2 : (t.length : Int) < 7 + (n : Int) := by omega
                have hE : errR t = 4 := by unfold errR; rw [if_neg fun h => f4 (by have := h.2.2.2; rw [HLN.out] at this; exact this)]
                rw [hE] at HP2
                have hk0 : ((kindR t).toNat : Int) = 0 → False := fun h => f2 (by
                  have : (kindR t).toNat = 0 := by omega
                  exact UInt8.toNat_inj.1 this)
                have hk1 : (((kindR t).toNat : Int) == 0) = false := by rw [beq_eq_false_iff_ne]; exact hk0
                clear hk0
                go_upto_region 5 with (fail)
                go_quiet (fail)
                go_wp2_with fail
                go_ret2
                exact ⟨[], none, 0, 4, rfl, .inr ⟨HP2.out, by decide, rfl⟩, fun i hi => absurd hi (by simp), below_drewN' HB.out _⟩
            · have hn1 : (2048 : Int) < (n : Int) := by omega
              have hE : errR t = 4 := by unfold errR; rw [if_neg fun h => f3 (by have := h.2.2.1; rw [HLN.out] at this; exact this)]
              rw [hE] at HP2
              have hk0 : ((kindR t).toNat : Int) = 0 → False := fun h => f2 (by
                have : (kindR t).toNat = 0 := by omega
                exact UInt8.toNat_inj.1 this)
              have hk1 : (((kindR t).toNat : Int) == 0) = false := by rw [beq_eq_false_iff_ne]; exact hk0
              clear hk0
              go_upto_region 5 with (fail)
              go_quiet (fail)
              go_wp2_with fail
              go_ret2
              exact ⟨[], none, 0, 4, rfl, .inr ⟨HP2.out, by decide, rfl⟩, fun i hi => absurd hi (by simp), below_drewN' HB.out _⟩
        · have hE : errR t = 4 := by unfold errR; rw [if_neg fun h => f1 h.1]
          rw [hE] at HP2
          have f1' : (t.length : Int) < 7 := by omega
          generalize bs t = S at *
          go_wp2_with fail
          go_ret2
          exact ⟨[], none, 0, 4, rfl, .inr ⟨HP2.out, by decide, rfl⟩, fun i hi => absurd hi (by simp), HB.out⟩
end Go.Proofs.Ytdjaldkjpmcbdaa
