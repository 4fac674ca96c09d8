/-
  The chart of all bytes is the document's, or there is none; what stands behind it isn't read (P21.2): for every text and every list of accounts.
-/
import Derived.Test.YtehjhldijhoeeaaChart12
import Derived.Test.YtehjhldijhoeeaaLaw21b

namespace Go.Proofs.Ytehjhldijhoeeaa
set_option linter.unusedSimpArgs false
set_option linter.unusedVariables false
open Go.RowKit Go.WideShapes Go.ChangeShapes Go.ChangeAt Go.Deep
theorem chread_nil (w : World) : Calls Try.prog 21 #[.pointer none] w fun e w' => e = .returned (.tuple #[.pointer none, .int .i64 4]) ∧ w = w' := by
  go_enter Try.func21, Try.ntmps21
  go_wp2_with fail
  refine (wrong_nil w).mono ?_
  rintro e w1 ⟨rfl, rfl⟩
  go_wp2_with fail
  go_ret2
  exact ⟨rfl, rfl⟩
theorem addM_few {M : List AcM} (x : AcM) (h : RisesA M) (h64 : M.length ≤ 64) : RisesA (addM M x) ∧ (addM M x).length ≤ 64 := by
  by_cases he : addE M x = 0
  · exact add_rises h he
  · rw [addM_no he]; exact ⟨h, h64⟩
/-- what both tell of a text -/
theorem both_read (t : ByteArray) (ht : t.size ≤ 1000000) : (∃ (M : List AcM) (rest : List UInt8), chR t.data.toList = some (M, rest)) ∨ chR t.data.toList = none := by
  cases h : chR t.data.toList with
  | none => exact Or.inr rfl
  | some z => exact Or.inl ⟨z.1, z.2, rfl⟩
theorem cur_new (t : ByteArray) (ht : t.size ≤ 1000000) (w : World) : Calls Try.prog 20 #[.string t] w fun e w' => e = .returned (.pointer (some ⟨w.heap.size, 0, none⟩)) ∧ RQ w' w.heap.size true t.data.toList ∧ Below w.heap.size w w' := by
  have h := rq_new t.data.toList (by rw [size_list]; exact ht) w
  rw [bs_of] at h
  exact h
theorem rchread_text (t : ByteArray) (ht : t.size ≤ 1000000) (w : World) : Calls Try.prog 22 #[.string t] w (RChReadIs t.data.toList w) := by
  have h := rchread_any t.data.toList (by rw [size_list]; exact ht) w
  rw [bs_of] at h
  exact h
theorem left_is (r : Nat) (l : List UInt8) (w : World) (h : RQ w r true l) : l.length ≤ 1000000 ∧ Calls Try.prog 23 #[.pointer (some ⟨r, 0, none⟩)] w fun e w' => e = .returned (.int .i64 (l.length : Int)) ∧ w = w' := by
  obtain ⟨s, h1, h2, h3⟩ := h
  have := h2 rfl
  subst this
  refine ⟨by rw [bs_size] at h3; exact h3, ?_⟩
  have h := left_any r (bs l) false w h1
  rw [if_neg (by decide), bs_size] at h
  exact h
theorem wrap_back2 (m : Nat) (r : Int) (hm : m ≤ 1000000) (h0 : 0 ≤ r) (h1 : r ≤ 1000000) : wrap64 r = r ∧ (m : Int) - ((m : Int) - r) = r := by
  refine ⟨?_, by omega⟩
  unfold wrap64; omega
theorem refS_size (L : List Fld) (h : L.length ≤ 2000) : (refS L).size ≤ 600000 := by
  have := wrFs_len L
  unfold refS
  split
  · show 0 ≤ _; decide
  · rw [bs_size]; omega
set_option maxRecDepth 100000 in
set_option maxHeartbeats 1000000 in
theorem chartReads_walk (s : ByteArray) (hs : s.size ≤ 9223372036854775807) (a : Option Addr) (L : List AcM) (cap : Nat) (hcap : L.length ≤ cap) (h63 : L.length ≤ 9223372036854775807) (w : World) (hin : InAcs w a L) (hok : ∀ x ∈ L, AcOk x) :
    Calls Try.prog 4 #[.string s, .slice a L.length cap] w fun e w' => e = .returned (.bool true) ∧ Below w.heap.size w w' := by
  obtain ⟨n, hn⟩ : ∃ n : Nat, min L.length 20 = n := ⟨_, rfl⟩
  have hmF : (if (20 : Int) < (L.length : Int) then (20 : Int) else (L.length : Int)) = (n : Int) := by split <;> omega
  have hmI : min (L.length : Int) 20 = (n : Int) := by omega
  have hn80 : n ≤ 20 := by omega
  have hnl : n ≤ L.length := by omega
  have hcI : (n : Int) ≤ (cap : Int) := by omega
  have HIN := hide hin
  have HOK := hide (fun j (h : j < L.length) => hok (L.getD j ac0) (by simp [List.getD, h]))
  clear hin hok hn
  go_enter Try.func4, Try.ntmps4
  go_wp2_with fail
  go_loopw [5, 25] (fun l i W => ∃ (j : Nat) (M : List AcM) (g : Option Addr) (c4 : Nat), j ≤ n ∧ l = .slice g M.length c4 ∧ i = .int .i64 j ∧ AcsIn W g M ∧ RightA M ∧ (RisesA M ∧ M.length ≤ 64) ∧ Below w.heap.size w W) (fun _ i _ => n - (Go.RowKit.intOf i).toNat)
  case atStart => exact ⟨0, [], none, 0, by omega, rfl, rfl, (fun i hi => absurd hi (Nat.not_lt_zero i)), (fun x hx => by cases hx), ⟨List.Pairwise.nil, Nat.zero_le _⟩, Below.refl _ _⟩
  case round =>
    obtain ⟨j, M, g, c4, hj, rfl, rfl, ha, hr, hri, hb⟩ := hrel
    have AM := hide ha
    have RM := hide hr
    have RI := hide hri
    have BM := hide hb
    clear ha hr hri hb
    by_cases hlt : j < n
    · have HLT := hide hlt
      obtain ⟨b, off, rfl, hbl, p0, p1, p2⟩ := (HIN.out.keep BM.out) j (by omega)
      have hx := HOK.out j (by omega)
      generalize L.getD j ac0 = x at *
      obtain ⟨c, k, s0⟩ := x
      dsimp only at *
      obtain ⟨hx1, hx2, hx3⟩ := hx
      dsimp only at hx1 hx2 hx3
      obtain ⟨nm, hnm⟩ : ∃ nm, nm = s0.extract 0 (min (s0.size : Int) 30).toNat := ⟨_, rfl⟩
      have hns : nm.size ≤ 30 := by rw [hnm, ByteArray.size_extract]; omega
      have HRA := hide (fun W h => radd_any M RI.out.2 ⟨c, k, nm⟩ ⟨hx1, hx2, by dsimp only; omega⟩ g c4 W h)
      have HRI2 := hide (addM_few ⟨c, k, nm⟩ RI.out.1 RI.out.2)
      have HRT2 := hide (addM_right (M := M) (x := ⟨c, k, nm⟩) RM.out)
      unfold RAddIs acV at HRA
      dsimp only at HRA
      generalize addM M ⟨c, k, nm⟩ = M2 at *
      generalize addE M ⟨c, k, nm⟩ = ae at *
      have HNM := hide hnm.symm
      have HX1 := hide hx1
      clear hx1 hx2 hns hbl
      have hal := (Below.refl wr.heap.size wr).alloc (Nat.le_refl _) (.cells #[.int .i64 c, .int .u8 k, .string s0] 28)
      have X5 := hide (heap_new wr (.cells #[.int .i64 c, .int .u8 k, .string s0] 28))
      have A5 := hide (AM.out.keep hal)
      have B5 := hide (BM.out.trans (hal.mono BM.out.size))
      clear hal AM BM
      go_upto_region 5 with (fail)
      generalize wr.alloc (.cells #[.int .i64 c, .int .u8 k, .string s0] 28) = w5 at *
      generalize wr.heap.size = q at *
      clear p0 p1 p2
      rw [hnm] at HRA
      have hb30 : 0 ≤ min (s0.size : Int) 30 := by omega
      have hb31 : min (s0.size : Int) 30 ≤ (s0.size : Int) := by omega
      refine wp_region_held_drew (S := (fun W => W.heap[q]? = some (.cells #[.int .i64 c, .int .u8 k, .string s0] 28 (0, 0)) ∧ AcsIn W g M ∧ Below w.heap.size w W)) (by kernel_rfl) (⟨X5.out, A5.out.keep ((Below.refl _ _).drew), B5.out.drew⟩) (fun hHeld => ?_)
      refine wpAnyH_take (i := 0) (oi := { dst := some 30, op := Op.move (Operand.tmp 5), type := 25, pos := "law.go:78", after := #[], guard := none }) (v := ?_) rfl (by kernel_rfl) (by kernel_rfl) (by kernel_rfl) (fun _ _ _ h => h) (Or.inl ⟨by kernel_rfl, ?_⟩) hHeld ?_
      rotate_left
      · (intro w hSw; (try dsimp only at hSw); have e0 := cell_of_block hSw.1 0; have e1 := cell_of_block hSw.1 1; have e2 := cell_of_block hSw.1 2; go_simp); try with_reducible rfl
      try simp only [Act.put, List.setIfInBounds_toArray, List.set_cons_zero, List.set_cons_succ]
      refine wpAnyH_take (i := 1) (oi := { dst := some 31, op := Op.fieldAddr 28 (Operand.tmp 7) 0, type := 0, pos := "law.go:78", after := #[], guard := none }) (v := ?_) rfl (by kernel_rfl) (by kernel_rfl) (by kernel_rfl) (fun _ _ _ h => h) (Or.inl ⟨by kernel_rfl, ?_⟩) hHeld ?_
      rotate_left
      · (intro w hSw; (try dsimp only at hSw); have e0 := cell_of_block hSw.1 0; have e1 := cell_of_block hSw.1 1; have e2 := cell_of_block hSw.1 2; go_simp); try with_reducible rfl
      try simp only [Act.put, List.setIfInBounds_toArray, List.set_cons_zero, List.set_cons_succ]
      refine wpAnyH_take (i := 2) (oi := { dst := some 32, op := Op.load 3 (Operand.tmp 31), type := 3, pos := "law.go:78", after := #[{ on := 1, ground := Ground.data }], guard := none }) (v := ?_) rfl (by kernel_rfl) (by kernel_rfl) (by kernel_rfl) (fun _ _ _ h => h) (Or.inl ⟨by kernel_rfl, ?_⟩) hHeld ?_
      rotate_left
      · (intro w hSw; (try dsimp only at hSw); have e0 := cell_of_block hSw.1 0; have e1 := cell_of_block hSw.1 1; have e2 := cell_of_block hSw.1 2; go_simp); try with_reducible rfl
      try simp only [Act.put, List.setIfInBounds_toArray, List.set_cons_zero, List.set_cons_succ]
      refine wpAnyH_take (i := 3) (oi := { dst := some 33, op := Op.fieldAddr 28 (Operand.tmp 7) 1, type := 0, pos := "law.go:78", after := #[], guard := none }) (v := ?_) rfl (by kernel_rfl) (by kernel_rfl) (by kernel_rfl) (fun _ _ _ h => h) (Or.inl ⟨by kernel_rfl, ?_⟩) hHeld ?_
      rotate_left
      · (intro w hSw; (try dsimp only at hSw); have e0 := cell_of_block hSw.1 0; have e1 := cell_of_block hSw.1 1; have e2 := cell_of_block hSw.1 2; go_simp); try with_reducible rfl
      try simp only [Act.put, List.setIfInBounds_toArray, List.set_cons_zero, List.set_cons_succ]
      refine wpAnyH_take (i := 4) (oi := { dst := some 34, op := Op.load 5 (Operand.tmp 33), type := 5, pos := "law.go:78", after := #[{ on := 3, ground := Ground.data }], guard := none }) (v := ?_) rfl (by kernel_rfl) (by kernel_rfl) (by kernel_rfl) (fun _ _ _ h => h) (Or.inl ⟨by kernel_rfl, ?_⟩) hHeld ?_
      rotate_left
      · (intro w hSw; (try dsimp only at hSw); have e0 := cell_of_block hSw.1 0; have e1 := cell_of_block hSw.1 1; have e2 := cell_of_block hSw.1 2; go_simp); try with_reducible rfl
      try simp only [Act.put, List.setIfInBounds_toArray, List.set_cons_zero, List.set_cons_succ]
      refine wpAnyH_take (i := 5) (oi := { dst := some 35, op := Op.fieldAddr 28 (Operand.tmp 7) 2, type := 0, pos := "law.go:78", after := #[], guard := none }) (v := ?_) rfl (by kernel_rfl) (by kernel_rfl) (by kernel_rfl) (fun _ _ _ h => h) (Or.inl ⟨by kernel_rfl, ?_⟩) hHeld ?_
      rotate_left
      · (intro w hSw; (try dsimp only at hSw); have e0 := cell_of_block hSw.1 0; have e1 := cell_of_block hSw.1 1; have e2 := cell_of_block hSw.1 2; go_simp); try with_reducible rfl
      try simp only [Act.put, List.setIfInBounds_toArray, List.set_cons_zero, List.set_cons_succ]
      refine wpAnyH_take (i := 6) (oi := { dst := some 36, op := Op.load 9 (Operand.tmp 35), type := 9, pos := "law.go:78", after := #[{ on := 5, ground := Ground.data }], guard := none }) (v := ?_) rfl (by kernel_rfl) (by kernel_rfl) (by kernel_rfl) (fun _ _ _ h => h) (Or.inl ⟨by kernel_rfl, ?_⟩) hHeld ?_
      rotate_left
      · (intro w hSw; (try dsimp only at hSw); have e0 := cell_of_block hSw.1 0; have e1 := cell_of_block hSw.1 1; have e2 := cell_of_block hSw.1 2; go_simp); try with_reducible rfl
      try simp only [Act.put, List.setIfInBounds_toArray, List.set_cons_zero, List.set_cons_succ]
      refine wpAnyH_take (i := 7) (oi := { dst := some 37, op := Op.fieldAddr 28 (Operand.tmp 7) 2, type := 0, pos := "law.go:78", after := #[], guard := none }) (v := ?_) rfl (by kernel_rfl) (by kernel_rfl) (by kernel_rfl) (fun _ _ _ h => h) (Or.inl ⟨by kernel_rfl, ?_⟩) hHeld ?_
      rotate_left
      · (intro w hSw; (try dsimp only at hSw); have e0 := cell_of_block hSw.1 0; have e1 := cell_of_block hSw.1 1; have e2 := cell_of_block hSw.1 2; go_simp); try with_reducible rfl
      try simp only [Act.put, List.setIfInBounds_toArray, List.set_cons_zero, List.set_cons_succ]
      refine wpAnyH_take (i := 8) (oi := { dst := some 38, op := Op.load 9 (Operand.tmp 37), type := 9, pos := "law.go:78", after := #[{ on := 7, ground := Ground.data }], guard := none }) (v := ?_) rfl (by kernel_rfl) (by kernel_rfl) (by kernel_rfl) (fun _ _ _ h => h) (Or.inl ⟨by kernel_rfl, ?_⟩) hHeld ?_
      rotate_left
      · (intro w hSw; (try dsimp only at hSw); have e0 := cell_of_block hSw.1 0; have e1 := cell_of_block hSw.1 1; have e2 := cell_of_block hSw.1 2; go_simp); try with_reducible rfl
      try simp only [Act.put, List.setIfInBounds_toArray, List.set_cons_zero, List.set_cons_succ]
      refine wpAnyH_take (i := 9) (oi := { dst := some 39, op := Op.call { callee := Callee.builtin Builtin.len, args := #[Operand.tmp 38], argTypes := #[9] }, type := 3, pos := "law.go:78", after := #[{ on := 8, ground := Ground.data }], guard := none }) (v := ?_) rfl (by kernel_rfl) (by kernel_rfl) (by kernel_rfl) (fun _ _ _ h => h) (Or.inl ⟨by kernel_rfl, ?_⟩) hHeld ?_
      rotate_left
      · (intro w hSw; (try dsimp only at hSw); have e0 := cell_of_block hSw.1 0; have e1 := cell_of_block hSw.1 1; have e2 := cell_of_block hSw.1 2; go_simp); try with_reducible rfl
      try simp only [Act.put, List.setIfInBounds_toArray, List.set_cons_zero, List.set_cons_succ]
      refine wpAnyH_take (i := 10) (oi := { dst := some 40, op := Op.call { callee := Callee.builtin Builtin.min, args := #[Operand.tmp 39, Operand.const (Value.int IntKind.i64 30)], argTypes := #[3, 3] }, type := 3, pos := "law.go:78", after := #[{ on := 9, ground := Ground.data }], guard := none }) (v := ?_) rfl (by kernel_rfl) (by kernel_rfl) (by kernel_rfl) (fun _ _ _ h => h) (Or.inl ⟨by kernel_rfl, ?_⟩) hHeld ?_
      rotate_left
      · (intro w hSw; (try dsimp only at hSw); have e0 := cell_of_block hSw.1 0; have e1 := cell_of_block hSw.1 1; have e2 := cell_of_block hSw.1 2; go_simp); try with_reducible rfl
      try simp only [Act.put, List.setIfInBounds_toArray, List.set_cons_zero, List.set_cons_succ]
      refine wpAnyH_take (i := 11) (oi := { dst := some 41, op := Op.slice 9 (Operand.tmp 36) none (some (Operand.tmp 40)) none, type := 9, pos := "law.go:78", after := #[{ on := 6, ground := Ground.data }, { on := 10, ground := Ground.data }], guard := none }) (v := ?_) rfl (by kernel_rfl) (by kernel_rfl) (by kernel_rfl) (fun _ _ _ h => h) (Or.inl ⟨by kernel_rfl, ?_⟩) hHeld ?_
      rotate_left
      · (intro w hSw; (try dsimp only at hSw); have e0 := cell_of_block hSw.1 0; have e1 := cell_of_block hSw.1 1; have e2 := cell_of_block hSw.1 2; go_simp); try with_reducible rfl
      try simp only [Act.put, List.setIfInBounds_toArray, List.set_cons_zero, List.set_cons_succ]
      refine wpAnyH_take (i := 12) (oi := { dst := some 42, op := Op.build 34 #[(0, Operand.tmp 32), (1, Operand.tmp 34), (2, Operand.tmp 41)], type := 34, pos := "law.go:78", after := #[{ on := 2, ground := Ground.data }, { on := 4, ground := Ground.data }, { on := 11, ground := Ground.data }], guard := none }) (v := ?_) rfl (by kernel_rfl) (by kernel_rfl) (by kernel_rfl) (fun _ _ _ h => h) (Or.inl ⟨by kernel_rfl, ?_⟩) hHeld ?_
      rotate_left
      · (intro w hSw; (try dsimp only at hSw); have e0 := cell_of_block hSw.1 0; have e1 := cell_of_block hSw.1 1; have e2 := cell_of_block hSw.1 2; go_simp); try with_reducible rfl
      try simp only [Act.put, List.setIfInBounds_toArray, List.set_cons_zero, List.set_cons_succ]
      refine wpAnyH_ready (rs := [13]) (by kernel_rfl) (by simp) ?_
      refine AllReadyH.cons (o := { dst := some 43, op := Op.call { callee := Callee.value (Operand.func 12), args := #[Operand.tmp 30, Operand.tmp 42], argTypes := #[25, 34] }, type := 35, pos := "law.go:78", after := #[{ on := 0, ground := Ground.data }, { on := 12, ground := Ground.data }], guard := none }) rfl (fun K hK => ?_) AllReadyH.nil
      have hOld := hide hHeld
      clear hHeld
      go_simp
      refine (HRA.out _ hOld.out.2.1).mono ?_
      rintro e v1 ⟨ga, ca, rfl, hga, hbx⟩
      have AV := hide hga
      (try go_wp2_with fail)
      refine hK.out _ _ (⟨(hbx.block _ (heap_lt hOld.out.1)).trans hOld.out.1, hOld.out.2.1.keep hbx, hOld.out.2.2.trans (hbx.mono hOld.out.2.2.size)⟩) (fun hHeld => ?_)
      clear hK K hOld
      try simp only [Act.put, List.setIfInBounds_toArray, List.set_cons_zero, List.set_cons_succ]
      refine wpAnyH_take (i := 14) (oi := { dst := some 29, op := Op.move (Operand.tmp 43), type := 35, pos := "law.go:78", after := #[{ on := 13, ground := Ground.data }], guard := none }) (v := ?_) rfl (by kernel_rfl) (by kernel_rfl) (by kernel_rfl) (fun _ _ _ h => h) (Or.inl ⟨by kernel_rfl, ?_⟩) hHeld ?_
      rotate_left
      · (intro w hSw; (try dsimp only at hSw); have e0 := cell_of_block hSw.1 0; have e1 := cell_of_block hSw.1 1; have e2 := cell_of_block hSw.1 2; go_simp); try with_reducible rfl
      try simp only [Act.put, List.setIfInBounds_toArray, List.set_cons_zero, List.set_cons_succ]
      refine wpAnyH_take (i := 15) (oi := { dst := some 44, op := Op.extract (Operand.tmp 29) 0, type := 25, pos := "law.go:78", after := #[{ on := 14, ground := Ground.data }], guard := none }) (v := ?_) rfl (by kernel_rfl) (by kernel_rfl) (by kernel_rfl) (fun _ _ _ h => h) (Or.inl ⟨by kernel_rfl, ?_⟩) hHeld ?_
      rotate_left
      · (intro w hSw; (try dsimp only at hSw); have e0 := cell_of_block hSw.1 0; have e1 := cell_of_block hSw.1 1; have e2 := cell_of_block hSw.1 2; go_simp); try with_reducible rfl
      try simp only [Act.put, List.setIfInBounds_toArray, List.set_cons_zero, List.set_cons_succ]
      refine wpAnyH_take (i := 16) (oi := { dst := some 45, op := Op.extract (Operand.tmp 29) 1, type := 3, pos := "law.go:78", after := #[{ on := 14, ground := Ground.data }, { on := 17, ground := Ground.gcOnly Departure.lateStores }], guard := none }) (v := ?_) rfl (by kernel_rfl) (by kernel_rfl) (by kernel_rfl) (fun _ _ _ h => h) (Or.inl ⟨by kernel_rfl, ?_⟩) hHeld ?_
      rotate_left
      · (intro w hSw; (try dsimp only at hSw); have e0 := cell_of_block hSw.1 0; have e1 := cell_of_block hSw.1 1; have e2 := cell_of_block hSw.1 2; go_simp); try with_reducible rfl
      try simp only [Act.put, List.setIfInBounds_toArray, List.set_cons_zero, List.set_cons_succ]
      refine wpAnyH_take (i := 17) (oi := { dst := some 5, op := Op.assign (Operand.tmp 44), type := 25, pos := "law.go:78", after := #[{ on := 15, ground := Ground.data }, { on := 13, ground := Ground.chain }, { on := 0, ground := Ground.phase }, { on := 1, ground := Ground.phase }, { on := 2, ground := Ground.phase }, { on := 3, ground := Ground.phase }, { on := 4, ground := Ground.phase }, { on := 5, ground := Ground.phase }, { on := 6, ground := Ground.phase }, { on := 7, ground := Ground.phase }, { on := 8, ground := Ground.phase }, { on := 9, ground := Ground.phase }, { on := 10, ground := Ground.phase }, { on := 11, ground := Ground.phase }, { on := 12, ground := Ground.phase }, { on := 13, ground := Ground.phase }, { on := 14, ground := Ground.phase }, { on := 15, ground := Ground.phase }, { on := 16, ground := Ground.textOnly Departure.lateStores }], guard := none }) (v := ?_) rfl (by kernel_rfl) (by kernel_rfl) (by kernel_rfl) (fun _ _ _ h => h) (Or.inl ⟨by kernel_rfl, ?_⟩) hHeld ?_
      rotate_left
      · (intro w hSw; (try dsimp only at hSw); have e0 := cell_of_block hSw.1 0; have e1 := cell_of_block hSw.1 1; have e2 := cell_of_block hSw.1 2; go_simp); try with_reducible rfl
      try simp only [Act.put, List.setIfInBounds_toArray, List.set_cons_zero, List.set_cons_succ]
      refine wpAnyH_done (by kernel_rfl) ?_ _
      have HELD := hide hHeld
      clear hHeld
      have AC := hide AV.out
      have BC := hide HELD.out.2.2
      clear HELD AV X5 A5 B5 HRA HNM hnm hx3
      go_wp2_with fail
      go_roundw
      case rel => exact ⟨j + 1, M2, ga, ca, HLT.out, rfl, by go_num, AC.out, HRT2.out, HRI2.out, BC.out⟩
      case measure => have := HLT.out; simp [Go.RowKit.intOf]; omega
    · obtain rfl : n = j := by omega
      clear hlt HIN HOK
      have HTX := hide (fun W h => rchtext M RM.out RI.out.2 g c4 W h)
      have HTS := hide (refS_size (chF M) (by have := chFk_len M M.length (Nat.le_refl _) RI.out.2; rw [chFk_all] at this; omega))
      generalize refS (chF M) = tx at *
      go_upto_region 8 with (fail)
      have hu : (s.extract 0 (min (s.size : Int) 200).toNat).size ≤ 200 := by rw [ByteArray.size_extract]; omega
      generalize s.extract 0 (min (s.size : Int) 200).toNat = u at *
      have HU := hide hu
      clear hu
      go_wp2_with fail
      refine (HTX.out _ AM.out).mono ?_
      rintro e w2 ⟨rfl, hb⟩
      have B2 := hide (BM.out.trans (hb.mono BM.out.size))
      clear hb AM BM HTX RM RI
      have hts : tx.size ≤ 600000 := HTS.out
      have hus : u.size ≤ 200 := HU.out
      obtain ⟨mn, hmn⟩ : ∃ mn : Int, min (tx.size : Int) (u.size : Int) = mn := ⟨_, rfl⟩
      have hm1 : 0 ≤ mn := by omega
      have hm2 : mn ≤ (tx.size : Int) := by omega
      have hm3 : 0 ≤ (tx.size : Int) - mn := by omega
      have hm4 : (tx.size : Int) - mn ≤ (tx.size : Int) := by omega
      go_upto_region 10 with (fail)
      have h3s : (tx.extract 0 ((tx.size : Int) - mn).toNat).size ≤ 600000 := by rw [ByteArray.size_extract]; omega
      have h2s : (tx ++ u).size ≤ 700000 := by rw [ByteArray.size_append]; omega
      generalize tx.extract 0 ((tx.size : Int) - mn).toNat = t3 at *
      generalize tx ++ u = t2 at *
      have HTHREE := hide (And.intro hus (And.intro h2s h3s))
      have hal := (Below.refl w2.heap.size w2).alloc (Nat.le_refl _) (.cells #[.string u, .string t2, .string t3] 9)
      have X3 := hide (heap_new w2 (.cells #[.string u, .string t2, .string t3] 9))
      have B3 := hide (B2.out.trans (hal.mono B2.out.size))
      clear hal B2 hmn hm1 hm2 hm3 hm4 hts hus h2s h3s HTS HU
      generalize w2.alloc (.cells #[.string u, .string t2, .string t3] 9) = w3 at *
      generalize w2.heap.size = tb at *
      go_wp2_with fail
      go_loopw [70] (fun i W => ∃ k : Nat, k ≤ 3 ∧ i = .int .i64 k ∧ W.heap[tb]? = some (.cells #[.string u, .string t2, .string t3] 9 (0, 0)) ∧ Below w.heap.size w W) (fun i _ => 3 - (Go.RowKit.intOf i).toNat)
      case atStart => exact ⟨0, by omega, rfl, X3.out, B3.out⟩
      case round =>
        obtain ⟨k, hk, rfl, hx, hb⟩ := hrel
        have XK := hide hx
        have BK := hide hb
        clear hx hb X3 B3
        by_cases hlt : k < 3
        · have HLT := hide hlt
          have hct : ∃ t : ByteArray, t.size ≤ 1000000 ∧ wr.cell? ⟨tb, k, none⟩ = some (.string t) := by
            have h3 := HTHREE.out
            have hk3 : k = 0 ∨ k = 1 ∨ k = 2 := by omega
            rcases hk3 with rfl | rfl | rfl
            · exact ⟨u, by omega, cell_of_block XK.out 0⟩
            · exact ⟨t2, by omega, cell_of_block XK.out 1⟩
            · exact ⟨t3, by omega, cell_of_block XK.out 2⟩
          obtain ⟨t, hts, hct⟩ := hct
          have HTS := hide hts
          have HSZL := hide (size_list t)
          go_wp2_with fail
          refine (cur_new t hts _).mono ?_
          rintro e w4 ⟨rfl, hq, hb⟩
          have Q4 := hide hq
          have X4 := hide ((hb.block _ (heap_lt XK.out)).trans XK.out)
          have B4 := hide (BK.out.trans (hb.mono BK.out.size))
          have HRB := hide (show w.heap.size ≤ wr.heap.size ∧ tb ≠ wr.heap.size from by have := BK.out.size; have := heap_lt XK.out; omega)
          clear hq hb XK BK hct
          generalize wr.heap.size = r at *
          go_wp2_with fail
          refine (chread_any r t.data.toList _ Q4.out).mono ?_
          rintro e w5 ⟨hcs, ho⟩
          have X5 := hide ((ho.block _ (heap_lt X4.out) HRB.out.2).trans X4.out)
          have B5 := hide (ho.below B4.out HRB.out.1 B4.out.size)
          clear ho X4 B4 Q4
          rcases hcs with ⟨hno, rfl⟩ | ⟨M', rest, p, bm, hso, rfl, hci, hrq, -, -⟩
          · have HNO := hide hno
            clear hno
            go_wp2_with fail
            refine (rchread_text t HTS.out _).mono ?_
            rintro e w6 ⟨hcs, hb⟩
            have X6 := hide ((hb.block _ (heap_lt X5.out)).trans X5.out)
            have B6 := hide (B5.out.trans (hb.mono B5.out.size))
            clear hb X5 B5
            rcases hcs with ⟨-, rfl⟩ | ⟨M2, r2, a2, c2, hso2, -⟩
            · go_wp2_with fail
              go_roundw
              case rel => exact ⟨k + 1, HLT.out, by go_num, X6.out, B6.out⟩
              case measure => have := HLT.out; simp [Go.RowKit.intOf]; omega
            · rw [HNO.out] at hso2; cases hso2
          · have HSO := hide hso
            have CI := hide hci
            have RQ5 := hide hrq
            clear hso hci hrq
            go_wp2_with fail
            refine (rchread_text t HTS.out _).mono ?_
            rintro e w6 ⟨hcs, hb⟩
            have X6 := hide ((hb.block _ (heap_lt X5.out)).trans X5.out)
            have B6 := hide (B5.out.trans (hb.mono B5.out.size))
            have C6 := hide (CI.out.below hb)
            have R6 := hide (RQ5.out.below hb)
            clear hb X5 B5 CI RQ5
            rcases hcs with ⟨hno2, -⟩ | ⟨M2, r2, a2, c2, hso2, rfl, ha2⟩
            · rw [HSO.out] at hno2; cases hno2
            · rw [HSO.out] at hso2
              simp only [Option.some.injEq, Prod.mk.injEq] at hso2
              obtain ⟨rfl, rfl⟩ := hso2
              have A6 := hide ha2
              clear ha2
              go_wp2_with fail
              refine (same_any p bm M' a2 c2 _ C6.out A6.out).mono ?_
              rintro e w7 ⟨rfl, hb⟩
              have X7 := hide ((hb.block _ (heap_lt X6.out)).trans X6.out)
              have B7 := hide (B6.out.trans (hb.mono B6.out.size))
              have R7 := hide (R6.out.below hb)
              clear hb X6 B6 C6 R6 A6
              obtain ⟨hl, hleft⟩ := left_is r rest w7 R7.out
              have HLF := hide hleft
              have htl : (t.data.toList.length : Int) = (t.size : Int) := by rw [HSZL.out]
              have hlr : (rest.length : Int) ≤ 1000000 := by omega
              have hr0 : 0 ≤ (rest.length : Int) := Int.natCast_nonneg _
              have hts2 : t.size ≤ 1000000 := HTS.out
              generalize (rest.length : Int) = rl at *
              obtain ⟨hw, hwb⟩ := wrap_back2 t.size rl hts2 hr0 hlr
              clear hleft hl htl hts2
              go_wp2_with fail
              refine HLF.out.mono ?_
              rintro e w8 ⟨rfl, rfl⟩
              go_wp2_with fail
              go_roundw
              case rel => exact ⟨k + 1, HLT.out, by go_num, X7.out, B7.out⟩
              case measure => have := HLT.out; simp [Go.RowKit.intOf]; omega
        · obtain rfl : k = 3 := by omega
          go_wp2_with fail
          refine (chread_nil _).mono ?_
          rintro e w4 ⟨rfl, rfl⟩
          go_wp2_with fail
          refine (wakes21 _).mono ?_
          rintro e w5 ⟨rfl, hb⟩
          have B5 := hide (BK.out.trans (hb.mono BK.out.size))
          clear hb
          go_wp2_with fail
          go_ret
          exact ⟨rfl, B5.out⟩

set_option maxRecDepth 100000 in
theorem chartReads_lifted (os : Os) (started : os.Started) (H : Type) (enc : TypeId × Value → H) :
    ReturnsInHanded {} Try.checked os 4 .any (Rows.chartReadsSpec.pre6 enc Try.prog Try.f4 Rows.chartReadsRow.domain false) (Rows.chartReadsSpec.post enc Try.prog Try.f4 false true false false) := by
  refine returnsInHanded_of_change (C := Try.checked) own started (by kernel_rfl) Try.func4
    (ChangeSpec.witness6 (enc := enc) (C := Try.checked) false ⟨#[], #[.string ⟨#[]⟩, .slice none 0 0], []⟩ 8 (by kernel_rfl) (by kernel_rfl) (by kernel_rfl) (by kernel_rfl)) ?_
  intro W base args ds gs before hval0 hW _ _
  have hval : ∀ (j : Nat) t v, Try.f4.params[j]? = some t → args[j]? = some v → Value.okWide Try.prog W .any base t v := hval0
  have hW' := hW
  obtain ⟨p, q, hA0, hV, rfl, hfz, hnd⟩ := hW
  have hA : DataW.TrodAll enc Try.prog W 0 (fun _ => true) true Try.f4.params.toList args.toList ds p := hA0
  rw [Try.params4] at hA hval
  obtain ⟨v0, vs0, d0, ds0, p0, q0, hargs, rfl, rfl, h0, r0⟩ := trodAll_cons hA
  obtain ⟨v1, vs1, d1, ds1, p1, q1, rfl, rfl, rfl, h1, r1⟩ := trodAll_cons r0
  obtain ⟨rfl, rfl, rfl⟩ := trodAll_nil r1
  obtain rfl : args = #[v0, v1] := by cases args; simp_all
  obtain ⟨rfl, rfl⟩ := trodVars_none hV
  obtain ⟨s, rfl, rfl, rfl, w0⟩ := ChangeMaps.open_string Try.underlying9 (hval 0 9 v0 rfl rfl) h0
  have z0 : s.size ≤ 9223372036854775807 := w0
  obtain ⟨a, L, cap, rfl, hc, h63, hin, hok⟩ := open_accts (hval 1 22 v1 rfl rfl) h1
  clear hA0 hval0
  refine (chartReads_walk s z0 a L cap hc h63 W hin hok).mono fun e W' ⟨he, hb⟩ => ?_
  subst he
  exact ⟨_, rfl, post_law laidOut (of_decide_eq_true (by kernel_rfl)) rfl rfl Try.underlying4 hW' ⟨rfl, rfl, rfl⟩ hb⟩

/-- THE STATEMENT -/
theorem chartReads_holds : Rows.ChartReadsSaid :=
  OpenClaim.holds_of_wide 4 Try.f4 rfl rfl rfl rfl rfl rfl rfl ⟨rfl, rfl, rfl, rfl, rfl⟩ rfl rfl rfl rfl rfl (by kernel_rfl) Try.func4 (by kernel_rfl)
    (of_decide_eq_true (by kernel_rfl)) (by unfold Func.isWrapper; first | (rw [if_pos (by decide +kernel)]; kernel_rfl) | (rw [if_neg (by decide +kernel)]; exact ⟨rfl, rfl⟩))
    (fun os started H enc _ => chartReads_lifted os started H enc)

end Go.Proofs.Ytehjhldijhoeeaa
