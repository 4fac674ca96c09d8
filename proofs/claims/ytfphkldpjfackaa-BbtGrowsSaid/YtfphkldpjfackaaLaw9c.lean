/-
  Layer 9: BbtBack.
-/
import Derived.Test.YtfphkldpjfackaaLaw9b
import Derived.Test.YtfphkldpjfackaaBbt6
namespace Go.Proofs.Ytfphkldpjfackaa
set_option linter.unusedSimpArgs false
set_option linter.unusedVariables false
open Go.RowKit Go.WideShapes Go.ChangeShapes Go.ChangeAt

theorem wp_alloc0 {P : Program} {o : Oper} {a : Act} {w : World} {K : Act → World → Prop} {Q : Exit → Act → World → Prop} (t : TypeId) (hop : o.op = Op.alloc t) (v : Value) (w' : World) (hv : (Instr.alloc t true (.tuple #[])).run P w = .ok v w') (h : K (a.put o.dst v) w') : o.wp P a w K Q := by
  unfold Oper.wp
  simp [execOp, hop, hv, Result.andThen]
  exact h
theorem take_row {o : Oper} {a : Act} {w : World} {x : Operand} (g : Nat) (cs : Array Value) (ho : o.op = .load 26 x) (hx : a.eval x = .pointer (some ⟨g, 0, none⟩)) (hg : w.heap[g]? = some (.cells cs 26 (0, 0))) (hi : (Try.prog.info? 26).map (·.size) = some cs.size) :
    (execOp a.eval o).run Try.prog w = .ok (.value (.agg cs)) w := by
  unfold execOp
  simp only [ho, hx]
  simp [Instr.loadAt, Instr.sureAddr, Sem.run_bind, Sem.run_pure, Result.andThen_ok, run_loadVar_row w g 26 26 cs (0, 0) _ hg Try.underlying26 rfl hi]
/-- a table in a cell of one's own -/
def RA (w W : World) (b : Nat) (C : Array Value) : Prop := W.heap[b]? = some (.cells C 26 (0, 0)) ∧ w.heap.size ≤ b ∧ Below w.heap.size w W
theorem RA.kept {w W W' : World} {b : Nat} {C : Array Value} (h : RA w W b C) (hb : Below W.heap.size W W') : RA w W' b C :=
  ⟨(hb.block _ (heap_lt h.1)).trans h.1, h.2.1, below_trans h.2.2 hb⟩
theorem RA.lt {w W : World} {b : Nat} {C : Array Value} (h : RA w W b C) : b < W.heap.size := heap_lt h.1
theorem RA.drew {w W : World} {b : Nat} {C : Array Value} (h : RA w W b C) : RA w W.drew b C := ⟨h.1, h.2.1, h.2.2.drew⟩
theorem RA.drewN {w W : World} {b : Nat} {C : Array Value} (h : RA w W b C) (n : Nat) : RA w (W.drewN n) b C := ⟨h.1, h.2.1, h.2.2.drewN' n⟩
theorem RA.alloc {w W : World} {b : Nat} {C : Array Value} (h : RA w W b C) (o : Obj) : RA w (W.alloc o) b C :=
  ⟨(heap_old W o b (heap_lt h.1)).trans h.1, h.2.1, h.2.2.alloc h.2.2.size o⟩
theorem RA.fresh {w W : World} (h : Below w.heap.size w W) (Z : Array Value) : RA w (W.alloc (.cells Z 26)) W.heap.size Z :=
  ⟨heap_new W _, h.size, h.alloc h.size _⟩
theorem RA.set {w W : World} {b : Nat} {C : Array Value} (h : RA w W b C) (C' : Array Value) : RA w (W.setRow b C') b C' :=
  ⟨setRow_heap _ _ _ _ _ _ h.1, h.2.1, setRow_below h.2.2 h.2.1 C'⟩
theorem RA.other {w W : World} {b c : Nat} {C D : Array Value} (h : RA w W b C) (hc : RA w W c D) (hn : b ≠ c) (C' : Array Value) : RA w (W.setRow c C') b C :=
  ⟨(setRow_other W c b C' hn).trans h.1, h.2.1, setRow_below h.2.2 hc.2.1 C'⟩
theorem RA.row {w W : World} (h : Below w.heap.size w W) (Z C : Array Value) : RA w ((W.alloc (.cells Z 26)).setRow W.heap.size C) W.heap.size C := (RA.fresh h Z).set C
theorem RA.rowOld {w W : World} {b : Nat} {D : Array Value} (h : RA w W b D) (Z C : Array Value) : RA w ((W.alloc (.cells Z 26)).setRow W.heap.size C) b D :=
  (h.alloc _).other (RA.fresh h.2.2 Z) (by have := h.lt; omega) C

set_option maxRecDepth 100000 in
set_option maxHeartbeats 1000000 in
theorem bbtBack_walk (bl : Nat) (hbl : bl ≤ 255) (zs : List Int) (hzs : ∀ z ∈ zs, (Lit.int .u8 z).wf = true) (a : Option Addr) (cap : Nat) (hcap : zs.length ≤ cap) (hmaxl : zs.length ≤ 9223372036854775807) (t : Nat) (t1 : t ≤ 255) (w : World)
    (hat : ∀ i, i < zs.length → ∃ b off, a = some ⟨b, off, none⟩ ∧ b < w.heap.size ∧ w.cell? ⟨b, off + i, none⟩ = some (.int .u8 (zs.getD i 0))) :
    Calls Try.prog 4 #[.int .u8 (bl : Int), .slice a zs.length cap, .int .u8 (t : Int)] w fun e w' => e = .returned (.bool true) ∧ Below w.heap.size w w' := by
  have HZS := hide hzs
  have HAT := hide hat
  clear hzs hat
  obtain ⟨N, hN⟩ : ∃ N : Nat, N = bl + 1 := ⟨_, rfl⟩
  have hN1 : 1 ≤ N := by omega
  have hN2 : N ≤ 256 := by omega
  have HNI := hide (show (1 : Int) + (bl : Int) = (N : Int) by omega)
  clear hN
  obtain ⟨n, hn⟩ : ∃ n : Nat, min zs.length 40 = n := ⟨_, rfl⟩
  have hn1 : n ≤ zs.length := by omega
  have hn2 : n ≤ 40 := by omega
  have hmI : (min (zs.length : Int) 40) = (n : Int) := by omega
  have hcI : (n : Int) ≤ (cap : Int) := by omega
  have HNEW := hide (fun W => new_any (N : Int) W)
  rw [if_pos (by omega), if_pos (by omega)] at HNEW
  have HI1 := hide (bbt_info 0 N zeros32 zeros_len)
  have HS1 := hide (bbt_sizes 0 0 0 N zeros32 zeros32 zeros_len zeros_len)
  have HO1 := hide (bbtC_one 0 N zeros32)
  have HAZ := hide (fun W => alloc_T W)
  obtain ⟨C, hC⟩ : ∃ C, C = bbtC 0 N zeros32 := ⟨_, rfl⟩
  obtain ⟨Z, hZ⟩ : ∃ Z, Z = bbtC 0 0 zeros32 := ⟨_, rfl⟩
  have HCE := hide hC
  rw [← hC] at HNEW HI1 HS1 HO1
  have HZE := hide hZ
  rw [← hZ] at HAZ HS1
  clear hC hZ
  go_enter Try.func4, Try.ntmps4
  go_wp2_with fail
  rw [HNI.out]
  refine (HNEW.out _).mono ?_
  rintro e w1 ⟨rfl, hb1⟩
  have HB1 := hide (row_below hb1 Z C)
  go_wp2_with (first | ((with_reducible show wpList _ _ _ _ _ w1); refine wpList_alloc0 w1 rfl 26 rfl (.pointer (some ⟨w1.heap.size, 0, none⟩)) (w1.alloc (.cells Z 26)) (HAZ.out w1) ?_) | ((with_reducible show wpList _ _ _ _ _ (World.alloc _ _)); refine wpList_storeR rfl 26 (.tmp 8) (.tmp 27) rfl w1.heap.size rfl C rfl Z (heap_new w1 _) HI1.out HS1.out HO1.out ?_))
  have HR1 := hide (row_new w1 Z C)
  have hb1s := hb1.size
  generalize (w1.alloc (.cells Z 26)).setRow w1.heap.size C = u1 at *
  generalize w1.heap.size = b8 at *
  clear hb1
  refine (wakes9 _).mono ?_
  rintro e w2 ⟨rfl, hb2⟩
  have HB2 := hide (below_trans HB1.out hb2)
  have HR2 := hide (((hb2.block _ (heap_lt HR1.out)).trans HR1.out))
  clear hb2 HB1 HR1
  go_wp2_with fail
  have HN := hide (show 0 = 0 → min zs.length 40 = n from fun _ => hn)
  clear hn hmI hcI HNEW HI1 HS1 HO1
  have HRA := hide (show RA w w2 b8 (bbtC ((0 : Nat) : Int) (N : Int) zeros32) from ⟨HCE.out ▸ HR2.out, hb1s, HB2.out⟩)
  have hN0 : ¬ N = 0 := by omega
  clear HR2 HB2 hb1s
  go_loopw [41] (fun i W => ∃ (j : Nat) (L : List UInt8), j ≤ n ∧ i = .int .i64 j ∧ L.length = 32 ∧ (∀ k, N ≤ k → hasB L k = false) ∧ RA w W b8 (bbtC (j : Int) (N : Int) L)) (fun i _ => n - (intOf i).toNat)
  case atStart => exact ⟨0, zeros32, by omega, rfl, rfl, fun k _ => zeros_has k, HRA.out⟩
  case round =>
    clear HRA
    obtain ⟨j, L, hj, rfl, hL, hov, hra⟩ := hrel
    have HOV := hide hov
    have HRA := hide hra
    clear hov hra
    by_cases hlt : j < n
    · obtain ⟨b, off, rfl, hbw, c0⟩ := HAT.out j (by omega)
      obtain ⟨x0, x1⟩ := wf_u8 (wf_getD HZS.out j (by omega))
      have d0 : wr.cell? ⟨b, off + j, none⟩ = some (.int .u8 (zs.getD j 0)) := (HRA.out.2.2.cell (p := ⟨b, off + j, none⟩) hbw).trans c0
      have hbl : b < wr.heap.size := Nat.lt_of_lt_of_le hbw HRA.out.2.2.size
      generalize zs.getD j 0 = x at *
      obtain ⟨k, hk⟩ : ∃ k : Nat, x.toNat % N = k := ⟨_, rfl⟩
      have hkN : k < N := by rw [← hk]; exact Nat.mod_lt _ (by omega)
      have hwx : (IntKind.i64.wrap x).tmod (N : Int) = (k : Int) := by
        have e : IntKind.i64.wrap x = x := by rw [IntKind.wrap_i64]; omega
        rw [e, Int.tmod_eq_emod_of_nonneg x0, ← hk, Int.natCast_emod]
        congr 1
        omega
      clear hk c0
      have HWI := hide (fun W => with_ok (j : Int) (N : Int) (by omega) (by omega) L hL k (by omega) (by omega) W)
      have hl2 : (withB L k).length = 32 := by rw [withB_length]; exact hL
      have HI0 := hide (bbt_info (j : Int) (N : Int) L hL)
      have HI2 := hide (bbt_info ((j : Int) + 1) (N : Int) (withB L k) hl2)
      have HO2 := hide (bbtC_one ((j : Int) + 1) (N : Int) (withB L k))
      have HS2 := hide (show Z.size = (bbtC ((j : Int) + 1) (N : Int) (withB L k)).size from HZE.out ▸ bbt_sizes 0 0 ((j : Int) + 1) (N : Int) zeros32 (withB L k) zeros_len hl2)
      have HS3 := hide (bbt_sizes (j : Int) (N : Int) ((j : Int) + 1) (N : Int) L (withB L k) hL hl2)
      go_upto_region 8 with (fail)
      go_cut [12, 13] from 45 to 53 (fun s12 s13 wx => ∃ b12, s12 = .pointer (some ⟨b12, 0, none⟩) ∧ s13 = .int .i64 0 ∧ b8 < b12 ∧ RA w wx b8 (bbtC (j : Int) (N : Int) L) ∧ RA w wx b12 (bbtC ((j : Int) + 1) (N : Int) (withB L k)))
      case first =>
        have HRv0 := hide HRA.out.drew
        clear HRA
        refine wp_region_held_drew (S := (fun W => RA w W b8 (bbtC (j : Int) (N : Int) L))) (by kernel_rfl) (HRv0.out) (fun hHeld => ?_)
        generalize wr.drew = v0 at *
        refine wpAnyH_take (i := 0) (oi := { dst := some 46, op := Op.load 26 (Operand.tmp 8), type := 26, pos := "law.go:100", after := #[], guard := none }) (v := ?_) rfl (by kernel_rfl) (by kernel_rfl) (by kernel_rfl) (fun _ _ _ h => h) (Or.inl ⟨by kernel_rfl, ?_⟩) hHeld ?_
        rotate_left
        · (intro w hSw; refine take_row (x := .tmp 8) b8 (bbtC (j : Int) (N : Int) L) ?_ ?_ hSw.1 HI0.out <;> rfl)
        try simp only [Act.put, List.setIfInBounds_toArray, List.set_cons_zero, List.set_cons_succ]
        refine wpAnyH_take (i := 1) (oi := { dst := some 47, op := Op.move (Operand.tmp 11), type := 5, pos := "law.go:100", after := #[], guard := none }) (v := ?_) rfl (by kernel_rfl) (by kernel_rfl) (by kernel_rfl) (fun _ _ _ h => h) (Or.inl ⟨by kernel_rfl, ?_⟩) hHeld ?_
        rotate_left
        · (intro w hSw; (try dsimp only at hSw); go_simp); try with_reducible rfl
        try simp only [Act.put, List.setIfInBounds_toArray, List.set_cons_zero, List.set_cons_succ]
        refine wpAnyH_take (i := 2) (oi := { dst := some 48, op := Op.convert 5 3 (Operand.tmp 47), type := 3, pos := "law.go:100", after := #[{ on := 1, ground := Ground.data }], guard := none }) (v := ?_) rfl (by kernel_rfl) (by kernel_rfl) (by kernel_rfl) (fun _ _ _ h => h) (Or.inl ⟨by kernel_rfl, ?_⟩) hHeld ?_
        rotate_left
        · (intro w hSw; (try dsimp only at hSw); go_simp); try with_reducible rfl
        try simp only [Act.put, List.setIfInBounds_toArray, List.set_cons_zero, List.set_cons_succ]
        refine wpAnyH_take (i := 3) (oi := { dst := some 49, op := Op.move (Operand.tmp 7), type := 3, pos := "law.go:100", after := #[], guard := none }) (v := ?_) rfl (by kernel_rfl) (by kernel_rfl) (by kernel_rfl) (fun _ _ _ h => h) (Or.inl ⟨by kernel_rfl, ?_⟩) hHeld ?_
        rotate_left
        · (intro w hSw; (try dsimp only at hSw); go_simp); try with_reducible rfl
        try simp only [Act.put, List.setIfInBounds_toArray, List.set_cons_zero, List.set_cons_succ]
        refine wpAnyH_take (i := 4) (oi := { dst := some 50, op := Op.binOp BinOp.rem 3 (Operand.tmp 48) (Operand.tmp 49) 3, type := 3, pos := "law.go:100", after := #[{ on := 2, ground := Ground.data }, { on := 3, ground := Ground.data }], guard := none }) (v := ?_) rfl (by kernel_rfl) (by kernel_rfl) (by kernel_rfl) (fun _ _ _ h => h) (Or.inl ⟨by kernel_rfl, ?_⟩) hHeld ?_
        rotate_left
        · (intro w hSw; (try dsimp only at hSw); go_simp); try with_reducible rfl
        try simp only [Act.put, List.setIfInBounds_toArray, List.set_cons_zero, List.set_cons_succ]
        refine wpAnyH_ready (rs := [5, 9]) (by kernel_rfl) (by simp) (AllReadyH.cons (o := { dst := some 51, op := Op.call { callee := Callee.value (Operand.func 10), args := #[Operand.tmp 46, Operand.tmp 50], argTypes := #[26, 3] }, type := 28, pos := "law.go:100", after := #[{ on := 0, ground := Ground.data }, { on := 4, ground := Ground.data }], guard := none }) rfl (fun K hK => ?_) (AllReadyH.cons (o := { dst := some 12, op := Op.alloc 26, type := 0, pos := "law.go:100", after := #[], guard := none }) rfl (fun K hK => ?_) AllReadyH.nil))
        · have hOld := hide hHeld
          clear hHeld
          go_simp
          (try rw [hwx])
          refine (HWI.out _).mono ?_
          rintro e v5 ⟨rfl, hb⟩
          have HRv5 := hide (HRv0.out.kept hb)
          clear hb
          (try go_wp2_with fail)
          refine hK.out _ _ (HRv5.out) (fun hHeld => ?_)
          clear hK K hOld
          try simp only [Act.put, List.setIfInBounds_toArray, List.set_cons_zero, List.set_cons_succ]
          refine wpAnyH_take (i := 6) (oi := { dst := some 45, op := Op.move (Operand.tmp 51), type := 28, pos := "law.go:100", after := #[{ on := 5, ground := Ground.data }], guard := none }) (v := ?_) rfl (by kernel_rfl) (by kernel_rfl) (by kernel_rfl) (fun _ _ _ h => h) (Or.inl ⟨by kernel_rfl, ?_⟩) hHeld ?_
          rotate_left
          · (intro w hSw; (try dsimp only at hSw); go_simp); try with_reducible rfl
          try simp only [Act.put, List.setIfInBounds_toArray, List.set_cons_zero, List.set_cons_succ]
          refine wpAnyH_take (i := 7) (oi := { dst := some 52, op := Op.extract (Operand.tmp 45) 0, type := 26, pos := "law.go:100", after := #[{ on := 6, ground := Ground.data }], guard := none }) (v := ?_) rfl (by kernel_rfl) (by kernel_rfl) (by kernel_rfl) (fun _ _ _ h => h) (Or.inl ⟨by kernel_rfl, ?_⟩) hHeld ?_
          rotate_left
          · (intro w hSw; (try dsimp only at hSw); go_simp); try with_reducible rfl
          try simp only [Act.put, List.setIfInBounds_toArray, List.set_cons_zero, List.set_cons_succ]
          refine wpAnyH_take (i := 8) (oi := { dst := some 53, op := Op.extract (Operand.tmp 45) 1, type := 27, pos := "law.go:100", after := #[{ on := 6, ground := Ground.data }, { on := 10, ground := Ground.gcOnly Departure.lateStores }], guard := none }) (v := ?_) rfl (by kernel_rfl) (by kernel_rfl) (by kernel_rfl) (fun _ _ _ h => h) (Or.inl ⟨by kernel_rfl, ?_⟩) hHeld ?_
          rotate_left
          · (intro w hSw; (try dsimp only at hSw); go_simp); try with_reducible rfl
          try simp only [Act.put, List.setIfInBounds_toArray, List.set_cons_zero, List.set_cons_succ]
          refine wpAnyH_ready (rs := [9]) (by kernel_rfl) (by simp) (AllReadyH.cons (o := { dst := some 12, op := Op.alloc 26, type := 0, pos := "law.go:100", after := #[], guard := none }) rfl (fun K hK => ?_) AllReadyH.nil)
          have hOld := hide hHeld
          clear hHeld
          have HZv9 := hide (RA.fresh HRv5.out.2.2 Z)
          have HRv9 := hide (HRv5.out.alloc (.cells Z 26))
          have hne : b8 < v5.heap.size := HRv5.out.lt
          refine wp_alloc0 26 rfl (.pointer (some ⟨v5.heap.size, 0, none⟩)) (v5.alloc (.cells Z 26)) (HAZ.out v5) ?_
          generalize v5.alloc (.cells Z 26) = v9 at *
          generalize v5.heap.size = b12 at *
          refine hK.out _ _ (HRv9.out) (fun hHeld => ?_)
          clear hK K hOld
          try simp only [Act.put, List.setIfInBounds_toArray, List.set_cons_zero, List.set_cons_succ]
          refine wpAnyH_ready (rs := [10]) (by kernel_rfl) (by simp) (AllReadyH.cons (o := { dst := none, op := Op.store 26 (Operand.tmp 12) (Operand.tmp 52), type := 0, pos := "law.go:100", after := #[{ on := 9, ground := Ground.data }, { on := 7, ground := Ground.data }, { on := 5, ground := Ground.chain }, { on := 0, ground := Ground.phase }, { on := 1, ground := Ground.phase }, { on := 2, ground := Ground.phase }, { on := 3, ground := Ground.phase }, { on := 4, ground := Ground.phase }, { on := 5, ground := Ground.phase }, { on := 6, ground := Ground.phase }, { on := 7, ground := Ground.phase }, { on := 8, ground := Ground.textOnly Departure.lateStores }, { on := 9, ground := Ground.phase }], guard := none }) rfl (fun K hK => ?_) AllReadyH.nil)
          have hOld := hide hHeld
          clear hHeld
          have HZv10 := hide (HZv9.out.set (bbtC ((j : Int) + 1) (N : Int) (withB L k)))
          have HRv10 := hide (HRv9.out.other HZv9.out (by omega) (bbtC ((j : Int) + 1) (N : Int) (withB L k)))
          refine wp_storeR (.tmp 12) (.tmp 52) rfl b12 rfl (bbtC ((j : Int) + 1) (N : Int) (withB L k)) rfl Z HZv9.out.1 HI2.out HS2.out HO2.out ?_
          generalize v9.setRow b12 (bbtC ((j : Int) + 1) (N : Int) (withB L k)) = v10 at *
          refine hK.out _ _ (HRv10.out) (fun hHeld => ?_)
          clear hK K hOld
          try simp only [Act.put, List.setIfInBounds_toArray, List.set_cons_zero, List.set_cons_succ]
          refine wpAnyH_take (i := 11) (oi := { dst := some 13, op := Op.assign (Operand.tmp 53), type := 27, pos := "law.go:100", after := #[{ on := 8, ground := Ground.data }, { on := 10, ground := Ground.chain }, { on := 0, ground := Ground.phase }, { on := 1, ground := Ground.phase }, { on := 2, ground := Ground.phase }, { on := 3, ground := Ground.phase }, { on := 4, ground := Ground.phase }, { on := 5, ground := Ground.phase }, { on := 6, ground := Ground.phase }, { on := 7, ground := Ground.phase }, { on := 8, ground := Ground.phase }, { on := 9, ground := Ground.phase }, { on := 10, ground := Ground.phase }], guard := none }) (v := ?_) rfl (by kernel_rfl) (by kernel_rfl) (by kernel_rfl) (fun _ _ _ h => h) (Or.inl ⟨by kernel_rfl, ?_⟩) hHeld ?_
          rotate_left
          · (intro w hSw; (try dsimp only at hSw); go_simp); try with_reducible rfl
          try simp only [Act.put, List.setIfInBounds_toArray, List.set_cons_zero, List.set_cons_succ]
          refine wpAnyH_done (by kernel_rfl) ?_ _
          go_wp2_with fail
          go_meet
          exact ⟨b12, rfl, rfl, hne, HRv10.out, HZv10.out⟩
        · have hOld := hide hHeld
          clear hHeld
          have HZv9 := hide (RA.fresh HRv0.out.2.2 Z)
          have HRv9 := hide (HRv0.out.alloc (.cells Z 26))
          have hne : b8 < v0.heap.size := HRv0.out.lt
          refine wp_alloc0 26 rfl (.pointer (some ⟨v0.heap.size, 0, none⟩)) (v0.alloc (.cells Z 26)) (HAZ.out v0) ?_
          generalize v0.alloc (.cells Z 26) = v9 at *
          generalize v0.heap.size = b12 at *
          refine hK.out _ _ (HRv9.out) (fun hHeld => ?_)
          clear hK K hOld
          try simp only [Act.put, List.setIfInBounds_toArray, List.set_cons_zero, List.set_cons_succ]
          refine wpAnyH_ready (rs := [5]) (by kernel_rfl) (by simp) (AllReadyH.cons (o := { dst := some 51, op := Op.call { callee := Callee.value (Operand.func 10), args := #[Operand.tmp 46, Operand.tmp 50], argTypes := #[26, 3] }, type := 28, pos := "law.go:100", after := #[{ on := 0, ground := Ground.data }, { on := 4, ground := Ground.data }], guard := none }) rfl (fun K hK => ?_) AllReadyH.nil)
          have hOld := hide hHeld
          clear hHeld
          go_simp
          (try rw [hwx])
          refine (HWI.out _).mono ?_
          rintro e v5 ⟨rfl, hb⟩
          have HRv5 := hide (HRv9.out.kept hb)
          have HZv5 := hide (HZv9.out.kept hb)
          clear hb
          (try go_wp2_with fail)
          refine hK.out _ _ (HRv5.out) (fun hHeld => ?_)
          clear hK K hOld
          try simp only [Act.put, List.setIfInBounds_toArray, List.set_cons_zero, List.set_cons_succ]
          refine wpAnyH_take (i := 6) (oi := { dst := some 45, op := Op.move (Operand.tmp 51), type := 28, pos := "law.go:100", after := #[{ on := 5, ground := Ground.data }], guard := none }) (v := ?_) rfl (by kernel_rfl) (by kernel_rfl) (by kernel_rfl) (fun _ _ _ h => h) (Or.inl ⟨by kernel_rfl, ?_⟩) hHeld ?_
          rotate_left
          · (intro w hSw; (try dsimp only at hSw); go_simp); try with_reducible rfl
          try simp only [Act.put, List.setIfInBounds_toArray, List.set_cons_zero, List.set_cons_succ]
          refine wpAnyH_take (i := 7) (oi := { dst := some 52, op := Op.extract (Operand.tmp 45) 0, type := 26, pos := "law.go:100", after := #[{ on := 6, ground := Ground.data }], guard := none }) (v := ?_) rfl (by kernel_rfl) (by kernel_rfl) (by kernel_rfl) (fun _ _ _ h => h) (Or.inl ⟨by kernel_rfl, ?_⟩) hHeld ?_
          rotate_left
          · (intro w hSw; (try dsimp only at hSw); go_simp); try with_reducible rfl
          try simp only [Act.put, List.setIfInBounds_toArray, List.set_cons_zero, List.set_cons_succ]
          refine wpAnyH_take (i := 8) (oi := { dst := some 53, op := Op.extract (Operand.tmp 45) 1, type := 27, pos := "law.go:100", after := #[{ on := 6, ground := Ground.data }, { on := 10, ground := Ground.gcOnly Departure.lateStores }], guard := none }) (v := ?_) rfl (by kernel_rfl) (by kernel_rfl) (by kernel_rfl) (fun _ _ _ h => h) (Or.inl ⟨by kernel_rfl, ?_⟩) hHeld ?_
          rotate_left
          · (intro w hSw; (try dsimp only at hSw); go_simp); try with_reducible rfl
          try simp only [Act.put, List.setIfInBounds_toArray, List.set_cons_zero, List.set_cons_succ]
          refine wpAnyH_ready (rs := [10]) (by kernel_rfl) (by simp) (AllReadyH.cons (o := { dst := none, op := Op.store 26 (Operand.tmp 12) (Operand.tmp 52), type := 0, pos := "law.go:100", after := #[{ on := 9, ground := Ground.data }, { on := 7, ground := Ground.data }, { on := 5, ground := Ground.chain }, { on := 0, ground := Ground.phase }, { on := 1, ground := Ground.phase }, { on := 2, ground := Ground.phase }, { on := 3, ground := Ground.phase }, { on := 4, ground := Ground.phase }, { on := 5, ground := Ground.phase }, { on := 6, ground := Ground.phase }, { on := 7, ground := Ground.phase }, { on := 8, ground := Ground.textOnly Departure.lateStores }, { on := 9, ground := Ground.phase }], guard := none }) rfl (fun K hK => ?_) AllReadyH.nil)
          have hOld := hide hHeld
          clear hHeld
          have HZv10 := hide (HZv5.out.set (bbtC ((j : Int) + 1) (N : Int) (withB L k)))
          have HRv10 := hide (HRv5.out.other HZv5.out (by omega) (bbtC ((j : Int) + 1) (N : Int) (withB L k)))
          refine wp_storeR (.tmp 12) (.tmp 52) rfl b12 rfl (bbtC ((j : Int) + 1) (N : Int) (withB L k)) rfl Z HZv5.out.1 HI2.out HS2.out HO2.out ?_
          generalize v5.setRow b12 (bbtC ((j : Int) + 1) (N : Int) (withB L k)) = v10 at *
          refine hK.out _ _ (HRv10.out) (fun hHeld => ?_)
          clear hK K hOld
          try simp only [Act.put, List.setIfInBounds_toArray, List.set_cons_zero, List.set_cons_succ]
          refine wpAnyH_take (i := 11) (oi := { dst := some 13, op := Op.assign (Operand.tmp 53), type := 27, pos := "law.go:100", after := #[{ on := 8, ground := Ground.data }, { on := 10, ground := Ground.chain }, { on := 0, ground := Ground.phase }, { on := 1, ground := Ground.phase }, { on := 2, ground := Ground.phase }, { on := 3, ground := Ground.phase }, { on := 4, ground := Ground.phase }, { on := 5, ground := Ground.phase }, { on := 6, ground := Ground.phase }, { on := 7, ground := Ground.phase }, { on := 8, ground := Ground.phase }, { on := 9, ground := Ground.phase }, { on := 10, ground := Ground.phase }], guard := none }) (v := ?_) rfl (by kernel_rfl) (by kernel_rfl) (by kernel_rfl) (fun _ _ _ h => h) (Or.inl ⟨by kernel_rfl, ?_⟩) hHeld ?_
          rotate_left
          · (intro w hSw; (try dsimp only at hSw); go_simp); try with_reducible rfl
          try simp only [Act.put, List.setIfInBounds_toArray, List.set_cons_zero, List.set_cons_succ]
          refine wpAnyH_done (by kernel_rfl) ?_ _
          go_wp2_with fail
          go_meet
          exact ⟨b12, rfl, rfl, hne, HRv10.out, HZv10.out⟩
      case rest =>
        obtain ⟨b12, rfl, rfl, hne, hr8, hr12⟩ := hcut
        have HR8 := hide hr8
        have HR12 := hide hr12
        clear hr8 hr12 HRA
        go_wp2_with (first | ((with_reducible show wpList _ _ _ _ _ wc); refine wpList_load_row rfl 26 (.tmp 12) rfl b12 rfl 26 (bbtC ((j : Int) + 1) (N : Int) (withB L k)) (0, 0) _ HR12.out.1 Try.underlying26 rfl HI2.out ?_) | ((with_reducible show wpList _ _ _ _ _ wc); refine wpList_storeR rfl 26 (.tmp 8) (.tmp 56) rfl b8 rfl (bbtC ((j : Int) + 1) (N : Int) (withB L k)) rfl (bbtC (j : Int) (N : Int) L) HR8.out.1 HI2.out HS3.out HO2.out ?_))
        have HR9 := hide (HR8.out.set (bbtC ((j : Int) + 1) (N : Int) (withB L k)))
        go_roundw
        case rel =>
          refine ⟨j + 1, withB L k, by omega, by go_num, hl2, fun i hi => ?_, ?_⟩
          · rw [withB_has L k i (by omega), HOV.out i hi, Bool.or_false]; exact decide_eq_false (by omega)
          · have := HR9.out
            rwa [show ((j : Int) + 1) = ((j + 1 : Nat) : Int) by omega] at this
        case measure => simp [intOf]; omega
    · obtain rfl : j = n := by omega
      have hnb : (N + 7) / 8 ≤ 32 := by omega
      have HTX := hide (fun W => text_ok (j : Int) (by omega) (by omega) N hN1 hN2 L hL (64 - 8 - (N + 7) / 8) 64 (by omega) (by omega) W)
      have hsl : (textL (j : Int) N L (64 - 8 - (N + 7) / 8)).length = 64 := by
        simp only [textL, List.length_append, List.length_take, List.length_replicate, putL_length, hL]; omega
      have hform := text_form (j : Int) N L hL (64 - 8 - (N + 7) / 8) hN1 hN2 HOV.out
      have hbits := text_bits (j : Int) N L hL (64 - 8 - (N + 7) / 8) hN2 HOV.out
      have hget : getN ((textL (j : Int) N L (64 - 8 - (N + 7) / 8)).take 8) = j := by
        unfold textL
        rw [List.append_assoc, List.take_append_of_le_length (by rw [putL_length]; omega), List.take_of_length_le (by rw [putL_length]; omega), getN_putL, Int.toNat_natCast]
        exact Nat.mod_eq_of_lt (by omega)
      generalize textL (j : Int) N L (64 - 8 - (N + 7) / 8) = s at *
      have HP := hide (fun W => parse_ok s (by omega) N hN1 hN2 hform W)
      have HF := hide (fun M h1 h2 h3 W => parse_ok s (by omega) M h1 h2 h3 W)
      have HF2 := hide (fun M h1 h2 h3 W => parse_form s (by omega) M h1 h2 h3 W)
      have HBAD := hide (fun M h1 h3 => form_bad s M N h1 hN1 h3 hform)
      have HBL := hide (fun M (h1 : M ≤ 256) (h2 : FormOk s M) => bitsP_length s M h1 h2.1)
      rw [hget, hbits] at HP
      rw [hget] at HF
      rw [hbits] at HBAD
      have HVE := hide (fun W => version_any (j : Int) (N : Int) L hL W)
      have HLI := hide (fun W => list_any (j : Int) N hN2 L hL W)
      have HIC := hide (bbt_info (j : Int) (N : Int) L hL)
      have HOC := hide (bbtC_one (j : Int) (N : Int) L)
      have HSC := hide (show Z.size = (bbtC (j : Int) (N : Int) L).size from HZE.out ▸ bbt_sizes 0 0 (j : Int) (N : Int) zeros32 L zeros_len hL)
      have HSD := hide (fun (M : Nat) (S : List UInt8) (h : S.length = 32) => show Z.size = (bbtC (j : Int) (M : Int) S).size from HZE.out ▸ bbt_sizes 0 0 (j : Int) (M : Int) zeros32 S zeros_len h)
      have HSZ := hide (show Z.size = (bbtC 0 0 zeros32).size from HZE.out ▸ rfl)
      have HIZ := hide (bbt_info 0 0 zeros32 zeros_len)
      have HOZ := hide (bbtC_one 0 0 zeros32)
      have hll : (badL L N).length ≤ 256 := Nat.le_trans (badL_le L N) hN2
      clear hsl hform hbits hget HOV hL
      generalize bbtC (j : Int) (N : Int) L = C at *
      generalize badL L N = B at *
      go_wp2_with (first | ((with_reducible show wpList _ _ _ _ _ wr); refine wpList_load_row rfl 26 (.tmp 8) rfl b8 rfl 26 C (0, 0) _ HRA.out.1 Try.underlying26 rfl HIC.out ?_))
      refine (HTX.out _).mono ?_
      rintro e w4 ⟨rfl, hb4⟩
      have HA4 := hide (HRA.out.kept hb4)
      clear hb4 HRA HTX
      go_wp2_with fail
      refine (HP.out _).mono ?_
      rintro e w4b ⟨rfl, hb4⟩
      have HA4b := hide (HA4.out.kept hb4)
      clear hb4 HA4 HP
      go_wp2_with (first | ((with_reducible show wpList _ _ _ _ _ w4b); refine wpList_alloc0 w4b rfl 26 rfl (.pointer (some ⟨w4b.heap.size, 0, none⟩)) (w4b.alloc (.cells Z 26)) (HAZ.out w4b) ?_) | ((with_reducible show wpList _ _ _ _ _ (World.alloc _ _)); refine wpList_storeR rfl 26 (.tmp 15) (.tmp 67) rfl w4b.heap.size rfl C rfl Z (heap_new w4b _) HIC.out HSC.out HOC.out ?_))
      have HA5 := hide (HA4b.out.rowOld Z C)
      have HB5 := hide (RA.row HA4b.out.2.2 Z C)
      generalize (w4b.alloc (.cells Z 26)).setRow w4b.heap.size C = w5 at *
      generalize w4b.heap.size = b15 at *
      clear HA4b
      go_upto_region 14 with (fail)
      have HAv0 := hide HA5.out.drew
      have HBv0 := hide HB5.out.drew
      clear HA5 HB5
      refine wp_region_held_drew (S := (fun W => RA w W b8 C ∧ RA w W b15 C)) (by kernel_rfl) (⟨HAv0.out, HBv0.out⟩) (fun hHeld => ?_)
      generalize w5.drew = v0 at *
      refine wpAnyH_take (i := 0) (oi := { dst := some 69, op := Op.move (Operand.tmp 9), type := 27, pos := "law.go:106", after := #[], guard := none }) (v := ?_) rfl (by kernel_rfl) (by kernel_rfl) (by kernel_rfl) (fun _ _ _ h => h) (Or.inl ⟨by kernel_rfl, ?_⟩) hHeld ?_
      rotate_left
      · (intro w hSw; (try dsimp only at hSw); go_simp); try with_reducible rfl
      try simp only [Act.put, List.setIfInBounds_toArray, List.set_cons_zero, List.set_cons_succ]
      refine wpAnyH_take (i := 1) (oi := { dst := some 70, op := Op.binOp BinOp.neq 27 (Operand.tmp 69) (Operand.const (Value.int IntKind.i64 0)) 27, type := 4, pos := "law.go:106", after := #[{ on := 0, ground := Ground.data }], guard := none }) (v := ?_) rfl (by kernel_rfl) (by kernel_rfl) (by kernel_rfl) (fun _ _ _ h => h) (Or.inl ⟨by kernel_rfl, ?_⟩) hHeld ?_
      rotate_left
      · (intro w hSw; (try dsimp only at hSw); go_simp); try with_reducible rfl
      try simp only [Act.put, List.setIfInBounds_toArray, List.set_cons_zero, List.set_cons_succ]
      refine wpAnyH_take (i := 2) (oi := { dst := some 71, op := Op.move (Operand.tmp 70), type := 4, pos := "law.go:106", after := #[{ on := 1, ground := Ground.data }], guard := none }) (v := ?_) rfl (by kernel_rfl) (by kernel_rfl) (by kernel_rfl) (fun _ _ _ h => h) (Or.inl ⟨by kernel_rfl, ?_⟩) hHeld ?_
      rotate_left
      · (intro w hSw; (try dsimp only at hSw); go_simp); try with_reducible rfl
      try simp only [Act.put, List.setIfInBounds_toArray, List.set_cons_zero, List.set_cons_succ]
      refine wpAnyH_take (i := 3) (oi := { dst := some 72, op := Op.move (Operand.tmp 16), type := 27, pos := "law.go:106", after := #[{ on := 2, ground := Ground.guard }], guard := some (2, false) }) (v := ?_) rfl (by kernel_rfl) (by kernel_rfl) (by kernel_rfl) (fun _ _ _ h => h) (Or.inl ⟨by kernel_rfl, ?_⟩) hHeld ?_
      rotate_left
      · (intro w hSw; (try dsimp only at hSw); go_simp); try with_reducible rfl
      try simp only [Act.put, List.setIfInBounds_toArray, List.set_cons_zero, List.set_cons_succ]
      refine wpAnyH_take (i := 4) (oi := { dst := some 73, op := Op.binOp BinOp.neq 27 (Operand.tmp 72) (Operand.const (Value.int IntKind.i64 0)) 27, type := 4, pos := "law.go:106", after := #[{ on := 3, ground := Ground.data }, { on := 2, ground := Ground.guard }], guard := some (2, false) }) (v := ?_) rfl (by kernel_rfl) (by kernel_rfl) (by kernel_rfl) (fun _ _ _ h => h) (Or.inl ⟨by kernel_rfl, ?_⟩) hHeld ?_
      rotate_left
      · (intro w hSw; (try dsimp only at hSw); go_simp); try with_reducible rfl
      try simp only [Act.put, List.setIfInBounds_toArray, List.set_cons_zero, List.set_cons_succ]
      refine wpAnyH_take (i := 5) (oi := { dst := some 74, op := Op.pick (Operand.tmp 71) (Operand.const (Value.bool true)) (Operand.tmp 73), type := 4, pos := "law.go:106", after := #[{ on := 2, ground := Ground.data }, { on := 4, ground := Ground.data }], guard := none }) (v := ?_) rfl (by kernel_rfl) (by kernel_rfl) (by kernel_rfl) (fun _ _ _ h => h) (Or.inl ⟨by kernel_rfl, ?_⟩) hHeld ?_
      rotate_left
      · (intro w hSw; (try dsimp only at hSw); go_simp); try with_reducible rfl
      try simp only [Act.put, List.setIfInBounds_toArray, List.set_cons_zero, List.set_cons_succ]
      refine wpAnyH_take (i := 6) (oi := { dst := some 75, op := Op.move (Operand.tmp 74), type := 4, pos := "law.go:106", after := #[{ on := 5, ground := Ground.data }, { on := 2, ground := Ground.chain }], guard := none }) (v := ?_) rfl (by kernel_rfl) (by kernel_rfl) (by kernel_rfl) (fun _ _ _ h => h) (Or.inl ⟨by kernel_rfl, ?_⟩) hHeld ?_
      rotate_left
      · (intro w hSw; (try dsimp only at hSw); go_simp); try with_reducible rfl
      try simp only [Act.put, List.setIfInBounds_toArray, List.set_cons_zero, List.set_cons_succ]
      refine wpAnyH_take (i := 7) (oi := { dst := some 76, op := Op.load 26 (Operand.tmp 15), type := 26, pos := "law.go:106", after := #[{ on := 6, ground := Ground.guard }], guard := some (6, false) }) (v := ?_) rfl (by kernel_rfl) (by kernel_rfl) (by kernel_rfl) (fun _ _ _ h => h) (Or.inl ⟨by kernel_rfl, ?_⟩) hHeld ?_
      rotate_left
      · (intro w hSw; refine take_row (x := .tmp 15) b15 C ?_ ?_ hSw.2.1 HIC.out <;> rfl)
      try simp only [Act.put, List.setIfInBounds_toArray, List.set_cons_zero, List.set_cons_succ]
      refine wpAnyH_take (i := 9) (oi := { dst := some 78, op := Op.load 26 (Operand.tmp 8), type := 26, pos := "law.go:106", after := #[{ on := 6, ground := Ground.guard }], guard := some (6, false) }) (v := ?_) rfl (by kernel_rfl) (by kernel_rfl) (by kernel_rfl) (fun _ _ _ h => h) (Or.inl ⟨by kernel_rfl, ?_⟩) hHeld ?_
      rotate_left
      · (intro w hSw; refine take_row (x := .tmp 8) b8 C ?_ ?_ hSw.1.1 HIC.out <;> rfl)
      try simp only [Act.put, List.setIfInBounds_toArray, List.set_cons_zero, List.set_cons_succ]
      refine wpAnyH_ready (rs := [8]) (by kernel_rfl) (by simp) (AllReadyH.cons (o := { dst := some 77, op := Op.call { callee := Callee.value (Operand.func 14), args := #[Operand.tmp 76], argTypes := #[26] }, type := 23, pos := "law.go:106", after := #[{ on := 7, ground := Ground.data }, { on := 6, ground := Ground.chain }, { on := 6, ground := Ground.guard }], guard := some (6, false) }) rfl (fun K hK => ?_) AllReadyH.nil)
      have hOld := hide hHeld
      clear hHeld
      go_simp
      refine (HVE.out _).mono ?_
      rintro e v8 ⟨rfl, hb⟩
      have HAv8 := hide (HAv0.out.kept hb)
      have HBv8 := hide (HBv0.out.kept hb)
      clear hb
      (try go_wp2_with fail)
      refine hK.out _ _ (⟨HAv8.out, HBv8.out⟩) (fun hHeld => ?_)
      clear hK K hOld
      try simp only [Act.put, List.setIfInBounds_toArray, List.set_cons_zero, List.set_cons_succ]
      refine wpAnyH_ready (rs := [10]) (by kernel_rfl) (by simp) (AllReadyH.cons (o := { dst := some 79, op := Op.call { callee := Callee.value (Operand.func 14), args := #[Operand.tmp 78], argTypes := #[26] }, type := 23, pos := "law.go:106", after := #[{ on := 9, ground := Ground.data }, { on := 8, ground := Ground.chain }, { on := 6, ground := Ground.guard }], guard := some (6, false) }) rfl (fun K hK => ?_) AllReadyH.nil)
      have hOld := hide hHeld
      clear hHeld
      go_simp
      refine (HVE.out _).mono ?_
      rintro e v10 ⟨rfl, hb⟩
      have HAv10 := hide (HAv8.out.kept hb)
      have HBv10 := hide (HBv8.out.kept hb)
      clear hb
      (try go_wp2_with fail)
      refine hK.out _ _ (⟨HAv10.out, HBv10.out⟩) (fun hHeld => ?_)
      clear hK K hOld
      try simp only [Act.put, List.setIfInBounds_toArray, List.set_cons_zero, List.set_cons_succ]
      refine wpAnyH_take (i := 11) (oi := { dst := some 80, op := Op.binOp BinOp.neq 23 (Operand.tmp 77) (Operand.tmp 79) 23, type := 4, pos := "law.go:106", after := #[{ on := 8, ground := Ground.data }, { on := 10, ground := Ground.data }, { on := 6, ground := Ground.guard }], guard := some (6, false) }) (v := ?_) rfl (by kernel_rfl) (by kernel_rfl) (by kernel_rfl) (fun _ _ _ h => h) (Or.inl ⟨by kernel_rfl, ?_⟩) hHeld ?_
      rotate_left
      · (intro w hSw; (try dsimp only at hSw); go_simp); try with_reducible rfl
      try simp only [Act.put, List.setIfInBounds_toArray, List.set_cons_zero, List.set_cons_succ]
      refine wpAnyH_take (i := 12) (oi := { dst := some 81, op := Op.pick (Operand.tmp 75) (Operand.const (Value.bool true)) (Operand.tmp 80), type := 4, pos := "law.go:106", after := #[{ on := 6, ground := Ground.data }, { on := 11, ground := Ground.data }], guard := none }) (v := ?_) rfl (by kernel_rfl) (by kernel_rfl) (by kernel_rfl) (fun _ _ _ h => h) (Or.inl ⟨by kernel_rfl, ?_⟩) hHeld ?_
      rotate_left
      · (intro w hSw; (try dsimp only at hSw); go_simp); try with_reducible rfl
      try simp only [Act.put, List.setIfInBounds_toArray, List.set_cons_zero, List.set_cons_succ]
      refine wpAnyH_take (i := 13) (oi := { dst := some 82, op := Op.move (Operand.tmp 81), type := 4, pos := "law.go:106", after := #[{ on := 12, ground := Ground.data }, { on := 10, ground := Ground.chain }], guard := none }) (v := ?_) rfl (by kernel_rfl) (by kernel_rfl) (by kernel_rfl) (fun _ _ _ h => h) (Or.inl ⟨by kernel_rfl, ?_⟩) hHeld ?_
      rotate_left
      · (intro w hSw; (try dsimp only at hSw); go_simp); try with_reducible rfl
      try simp only [Act.put, List.setIfInBounds_toArray, List.set_cons_zero, List.set_cons_succ]
      refine wpAnyH_take (i := 14) (oi := { dst := some 83, op := Op.load 26 (Operand.tmp 15), type := 26, pos := "law.go:106", after := #[{ on := 13, ground := Ground.guard }], guard := some (13, false) }) (v := ?_) rfl (by kernel_rfl) (by kernel_rfl) (by kernel_rfl) (fun _ _ _ h => h) (Or.inl ⟨by kernel_rfl, ?_⟩) hHeld ?_
      rotate_left
      · (intro w hSw; refine take_row (x := .tmp 15) b15 C ?_ ?_ hSw.2.1 HIC.out <;> rfl)
      try simp only [Act.put, List.setIfInBounds_toArray, List.set_cons_zero, List.set_cons_succ]
      refine wpAnyH_take (i := 17) (oi := { dst := some 86, op := Op.load 26 (Operand.tmp 8), type := 26, pos := "law.go:106", after := #[{ on := 13, ground := Ground.guard }], guard := some (13, false) }) (v := ?_) rfl (by kernel_rfl) (by kernel_rfl) (by kernel_rfl) (fun _ _ _ h => h) (Or.inl ⟨by kernel_rfl, ?_⟩) hHeld ?_
      rotate_left
      · (intro w hSw; refine take_row (x := .tmp 8) b8 C ?_ ?_ hSw.1.1 HIC.out <;> rfl)
      try simp only [Act.put, List.setIfInBounds_toArray, List.set_cons_zero, List.set_cons_succ]
      refine wpAnyH_ready (rs := [15]) (by kernel_rfl) (by simp) (AllReadyH.cons (o := { dst := some 84, op := Op.call { callee := Callee.value (Operand.func 15), args := #[Operand.tmp 83], argTypes := #[26] }, type := 22, pos := "law.go:106", after := #[{ on := 14, ground := Ground.data }, { on := 13, ground := Ground.chain }, { on := 13, ground := Ground.guard }], guard := some (13, false) }) rfl (fun K hK => ?_) AllReadyH.nil)
      have hOld := hide hHeld
      clear hHeld
      go_simp
      refine (HLI.out _).mono ?_
      rintro e v15 ⟨x15, y15, rfl, -, hb⟩
      have HAv15 := hide (HAv10.out.kept hb)
      have HBv15 := hide (HBv10.out.kept hb)
      clear hb
      (try go_wp2_with fail)
      refine hK.out _ _ (⟨HAv15.out, HBv15.out⟩) (fun hHeld => ?_)
      clear hK K hOld
      try simp only [Act.put, List.setIfInBounds_toArray, List.set_cons_zero, List.set_cons_succ]
      refine wpAnyH_take (i := 16) (oi := { dst := some 85, op := Op.call { callee := Callee.builtin Builtin.len, args := #[Operand.tmp 84], argTypes := #[22] }, type := 3, pos := "law.go:106", after := #[{ on := 15, ground := Ground.data }, { on := 13, ground := Ground.guard }], guard := some (13, false) }) (v := ?_) rfl (by kernel_rfl) (by kernel_rfl) (by kernel_rfl) (fun _ _ _ h => h) (Or.inl ⟨by kernel_rfl, ?_⟩) hHeld ?_
      rotate_left
      · (intro w hSw; (try dsimp only at hSw); go_simp); try with_reducible rfl
      try simp only [Act.put, List.setIfInBounds_toArray, List.set_cons_zero, List.set_cons_succ]
      refine wpAnyH_ready (rs := [18]) (by kernel_rfl) (by simp) (AllReadyH.cons (o := { dst := some 87, op := Op.call { callee := Callee.value (Operand.func 15), args := #[Operand.tmp 86], argTypes := #[26] }, type := 22, pos := "law.go:106", after := #[{ on := 17, ground := Ground.data }, { on := 15, ground := Ground.chain }, { on := 13, ground := Ground.guard }], guard := some (13, false) }) rfl (fun K hK => ?_) AllReadyH.nil)
      have hOld := hide hHeld
      clear hHeld
      go_simp
      refine (HLI.out _).mono ?_
      rintro e v18 ⟨x18, y18, rfl, -, hb⟩
      have HAv18 := hide (HAv15.out.kept hb)
      have HBv18 := hide (HBv15.out.kept hb)
      clear hb
      (try go_wp2_with fail)
      refine hK.out _ _ (⟨HAv18.out, HBv18.out⟩) (fun hHeld => ?_)
      clear hK K hOld
      try simp only [Act.put, List.setIfInBounds_toArray, List.set_cons_zero, List.set_cons_succ]
      refine wpAnyH_take (i := 19) (oi := { dst := some 88, op := Op.call { callee := Callee.builtin Builtin.len, args := #[Operand.tmp 87], argTypes := #[22] }, type := 3, pos := "law.go:106", after := #[{ on := 18, ground := Ground.data }, { on := 13, ground := Ground.guard }], guard := some (13, false) }) (v := ?_) rfl (by kernel_rfl) (by kernel_rfl) (by kernel_rfl) (fun _ _ _ h => h) (Or.inl ⟨by kernel_rfl, ?_⟩) hHeld ?_
      rotate_left
      · (intro w hSw; (try dsimp only at hSw); go_simp); try with_reducible rfl
      try simp only [Act.put, List.setIfInBounds_toArray, List.set_cons_zero, List.set_cons_succ]
      refine wpAnyH_take (i := 20) (oi := { dst := some 89, op := Op.binOp BinOp.neq 3 (Operand.tmp 85) (Operand.tmp 88) 3, type := 4, pos := "law.go:106", after := #[{ on := 16, ground := Ground.data }, { on := 19, ground := Ground.data }, { on := 13, ground := Ground.guard }], guard := some (13, false) }) (v := ?_) rfl (by kernel_rfl) (by kernel_rfl) (by kernel_rfl) (fun _ _ _ h => h) (Or.inl ⟨by kernel_rfl, ?_⟩) hHeld ?_
      rotate_left
      · (intro w hSw; (try dsimp only at hSw); go_simp); try with_reducible rfl
      try simp only [Act.put, List.setIfInBounds_toArray, List.set_cons_zero, List.set_cons_succ]
      refine wpAnyH_take (i := 21) (oi := { dst := some 90, op := Op.pick (Operand.tmp 82) (Operand.const (Value.bool true)) (Operand.tmp 89), type := 4, pos := "law.go:106", after := #[{ on := 13, ground := Ground.data }, { on := 20, ground := Ground.data }], guard := none }) (v := ?_) rfl (by kernel_rfl) (by kernel_rfl) (by kernel_rfl) (fun _ _ _ h => h) (Or.inl ⟨by kernel_rfl, ?_⟩) hHeld ?_
      rotate_left
      · (intro w hSw; (try dsimp only at hSw); go_simp); try with_reducible rfl
      try simp only [Act.put, List.setIfInBounds_toArray, List.set_cons_zero, List.set_cons_succ]
      refine wpAnyH_done (by kernel_rfl) ?_ _
      clear hHeld HAv0 HBv0 HAv8 HBv8 HAv10 HBv10 HAv15 HBv15 HVE
      go_wp2_with (first | ((with_reducible show wpList _ _ _ _ _ v18); refine wpList_load_row rfl 26 (.tmp 8) rfl b8 rfl 26 C (0, 0) _ HAv18.out.1 Try.underlying26 rfl HIC.out ?_))
      refine (HLI.out _).mono ?_
      rintro e w6 ⟨a1, c1, rfl, ho, hb6⟩
      have HA6 := hide (HAv18.out.kept hb6)
      have HB6 := hide (HBv18.out.kept hb6)
      have HR6 := hide (RowI.of ho)
      clear ho hb6 HAv18 HBv18
      go_wp2_with fail
      go_loopw [94] (fun i W => ∃ c : Nat, c ≤ B.length ∧ i = .int .i64 c ∧ RA w W b8 C ∧ RA w W b15 C ∧ RowI W a1 B) (fun i _ => B.length - (intOf i).toNat)
      case atStart => exact ⟨0, by omega, rfl, HA6.out, HB6.out, HR6.out⟩
      case round =>
        clear HA6 HB6 HR6
        obtain ⟨c, hc, rfl, ha, hb, hr⟩ := hrel
        have HA := hide ha
        have HB := hide hb
        have HR := hide hr
        clear ha hb hr
        by_cases hlc : c < B.length
        · obtain ⟨p1, rfl, p1l, q1⟩ := HR.out c hlc
          obtain ⟨z, hz⟩ : ∃ z, B.getD c 0 = z := ⟨_, rfl⟩
          rw [hz] at q1
          have HZ := hide hz
          clear hz
          go_wp2_with (first | ((with_reducible show wpList _ _ _ _ _ wr); refine wpList_load_row rfl 26 (.tmp 15) rfl b15 rfl 26 C (0, 0) _ HB.out.1 Try.underlying26 rfl HIC.out ?_))
          refine (HLI.out _).mono ?_
          rintro e w7 ⟨a2, c2, rfl, ho, hb7⟩
          have HA7 := hide (HA.out.kept hb7)
          have HB7 := hide (HB.out.kept hb7)
          have HR7 := hide (HR.out.kept hb7)
          obtain ⟨p2, rfl, p2l, q2⟩ := (RowI.of ho) c hlc
          rw [HZ.out] at q2
          clear ho hb7 HA HB HR q1 p1l
          go_wp2_with fail
          go_roundw
          case rel => exact ⟨c + 1, by omega, by go_num, HA7.out, HB7.out, HR7.out⟩
          case measure => simp [intOf]; omega
        · obtain rfl : c = B.length := by omega
          clear HB HR
          obtain ⟨M, hM⟩ : ∃ M : Nat, M = t + 1 := ⟨_, rfl⟩
          have hM1 : 1 ≤ M := by omega
          have hM2 : M ≤ 256 := by omega
          have HMI := hide (show (1 : Int) + (t : Int) = (M : Int) by omega)
          clear hM
          go_wp2_with fail
          rw [HMI.out]
          by_cases hfm : FormOk s M
          · have HPM := hide (fun W => HF.out M hM1 hM2 hfm W)
            have hbl := HBL.out M hM2 hfm
            have HID := hide (bbt_info (j : Int) (M : Int) (bitsP s M) hbl)
            have HOD := hide (bbtC_one (j : Int) (M : Int) (bitsP s M))
            have HSD' := hide (HSD.out M (bitsP s M) hbl)
            have HLD := hide (fun W => list_any (j : Int) M hM2 (bitsP s M) hbl W)
            rw [HBAD.out M hM1 hfm] at HLD
            generalize bbtC (j : Int) (M : Int) (bitsP s M) = D at *
            refine (HPM.out _).mono ?_
            rintro e w6 ⟨rfl, hb6⟩
            have HA6 := hide (HA.out.kept hb6)
            clear hb6 HA HPM HF HF2 HBAD HBL HSD
            go_wp2_with (first | ((with_reducible show wpList _ _ _ _ _ w6); refine wpList_alloc0 w6 rfl 26 rfl (.pointer (some ⟨w6.heap.size, 0, none⟩)) (w6.alloc (.cells Z 26)) (HAZ.out w6) ?_) | ((with_reducible show wpList _ _ _ _ _ (World.alloc _ _)); refine wpList_storeR rfl 26 (.tmp 19) (.tmp 113) rfl w6.heap.size rfl D rfl Z (heap_new w6 _) HID.out HSD'.out HOD.out ?_))
            have HA7 := hide (HA6.out.rowOld Z D)
            have HB7 := hide (RA.row HA6.out.2.2 Z D)
            generalize (w6.alloc (.cells Z 26)).setRow w6.heap.size D = w7 at *
            generalize w6.heap.size = b19 at *
            clear HA6
            go_upto_region 23 with (fail)
            have HAv0 := hide HA7.out.drew
            have HBv0 := hide HB7.out.drew
            clear HA7 HB7
            refine wp_region_held_drew (S := (fun W => RA w W b8 C ∧ RA w W b19 D)) (by kernel_rfl) (⟨HAv0.out, HBv0.out⟩) (fun hHeld => ?_)
            generalize w7.drew = v0 at *
            refine wpAnyH_take (i := 0) (oi := { dst := some 115, op := Op.move (Operand.tmp 20), type := 27, pos := "law.go:115", after := #[], guard := none }) (v := ?_) rfl (by kernel_rfl) (by kernel_rfl) (by kernel_rfl) (fun _ _ _ h => h) (Or.inl ⟨by kernel_rfl, ?_⟩) hHeld ?_
            rotate_left
            · (intro w hSw; (try dsimp only at hSw); go_simp); try with_reducible rfl
            try simp only [Act.put, List.setIfInBounds_toArray, List.set_cons_zero, List.set_cons_succ]
            refine wpAnyH_take (i := 1) (oi := { dst := some 116, op := Op.binOp BinOp.eql 27 (Operand.tmp 115) (Operand.const (Value.int IntKind.i64 4)) 27, type := 4, pos := "law.go:115", after := #[{ on := 0, ground := Ground.data }], guard := none }) (v := ?_) rfl (by kernel_rfl) (by kernel_rfl) (by kernel_rfl) (fun _ _ _ h => h) (Or.inl ⟨by kernel_rfl, ?_⟩) hHeld ?_
            rotate_left
            · (intro w hSw; (try dsimp only at hSw); go_simp); try with_reducible rfl
            try simp only [Act.put, List.setIfInBounds_toArray, List.set_cons_zero, List.set_cons_succ]
            refine wpAnyH_take (i := 2) (oi := { dst := some 117, op := Op.move (Operand.tmp 116), type := 4, pos := "law.go:115", after := #[{ on := 1, ground := Ground.data }], guard := none }) (v := ?_) rfl (by kernel_rfl) (by kernel_rfl) (by kernel_rfl) (fun _ _ _ h => h) (Or.inl ⟨by kernel_rfl, ?_⟩) hHeld ?_
            rotate_left
            · (intro w hSw; (try dsimp only at hSw); go_simp); try with_reducible rfl
            try simp only [Act.put, List.setIfInBounds_toArray, List.set_cons_zero, List.set_cons_succ]
            refine wpAnyH_take (i := 3) (oi := { dst := some 118, op := Op.move (Operand.tmp 20), type := 27, pos := "law.go:115", after := #[{ on := 2, ground := Ground.guard }], guard := some (2, false) }) (v := ?_) rfl (by kernel_rfl) (by kernel_rfl) (by kernel_rfl) (fun _ _ _ h => h) (Or.inl ⟨by kernel_rfl, ?_⟩) hHeld ?_
            rotate_left
            · (intro w hSw; (try dsimp only at hSw); go_simp); try with_reducible rfl
            try simp only [Act.put, List.setIfInBounds_toArray, List.set_cons_zero, List.set_cons_succ]
            refine wpAnyH_take (i := 4) (oi := { dst := some 119, op := Op.binOp BinOp.eql 27 (Operand.tmp 118) (Operand.const (Value.int IntKind.i64 0)) 27, type := 4, pos := "law.go:115", after := #[{ on := 3, ground := Ground.data }, { on := 2, ground := Ground.guard }], guard := some (2, false) }) (v := ?_) rfl (by kernel_rfl) (by kernel_rfl) (by kernel_rfl) (fun _ _ _ h => h) (Or.inl ⟨by kernel_rfl, ?_⟩) hHeld ?_
            rotate_left
            · (intro w hSw; (try dsimp only at hSw); go_simp); try with_reducible rfl
            try simp only [Act.put, List.setIfInBounds_toArray, List.set_cons_zero, List.set_cons_succ]
            refine wpAnyH_take (i := 5) (oi := { dst := some 120, op := Op.move (Operand.tmp 119), type := 4, pos := "law.go:115", after := #[{ on := 4, ground := Ground.data }, { on := 2, ground := Ground.chain }, { on := 2, ground := Ground.guard }], guard := some (2, false) }) (v := ?_) rfl (by kernel_rfl) (by kernel_rfl) (by kernel_rfl) (fun _ _ _ h => h) (Or.inl ⟨by kernel_rfl, ?_⟩) hHeld ?_
            rotate_left
            · (intro w hSw; (try dsimp only at hSw); go_simp); try with_reducible rfl
            try simp only [Act.put, List.setIfInBounds_toArray, List.set_cons_zero, List.set_cons_succ]
            refine wpAnyH_take (i := 6) (oi := { dst := some 121, op := Op.load 26 (Operand.tmp 19), type := 26, pos := "law.go:115", after := #[{ on := 5, ground := Ground.guard }], guard := some (5, true) }) (v := ?_) rfl (by kernel_rfl) (by kernel_rfl) (by kernel_rfl) (fun _ _ _ h => h) (Or.inl ⟨by kernel_rfl, ?_⟩) hHeld ?_
            rotate_left
            · (intro w hSw; refine take_row (x := .tmp 19) b19 D ?_ ?_ hSw.2.1 HID.out <;> rfl)
            try simp only [Act.put, List.setIfInBounds_toArray, List.set_cons_zero, List.set_cons_succ]
            refine wpAnyH_take (i := 9) (oi := { dst := some 124, op := Op.load 26 (Operand.tmp 8), type := 26, pos := "law.go:115", after := #[{ on := 5, ground := Ground.guard }], guard := some (5, true) }) (v := ?_) rfl (by kernel_rfl) (by kernel_rfl) (by kernel_rfl) (fun _ _ _ h => h) (Or.inl ⟨by kernel_rfl, ?_⟩) hHeld ?_
            rotate_left
            · (intro w hSw; refine take_row (x := .tmp 8) b8 C ?_ ?_ hSw.1.1 HIC.out <;> rfl)
            try simp only [Act.put, List.setIfInBounds_toArray, List.set_cons_zero, List.set_cons_succ]
            refine wpAnyH_ready (rs := [7]) (by kernel_rfl) (by simp) (AllReadyH.cons (o := { dst := some 122, op := Op.call { callee := Callee.value (Operand.func 15), args := #[Operand.tmp 121], argTypes := #[26] }, type := 22, pos := "law.go:115", after := #[{ on := 6, ground := Ground.data }, { on := 5, ground := Ground.chain }, { on := 5, ground := Ground.guard }], guard := some (5, true) }) rfl (fun K hK => ?_) AllReadyH.nil)
            have hOld := hide hHeld
            clear hHeld
            go_simp
            refine (HLD.out _).mono ?_
            rintro e v7 ⟨x7, y7, rfl, -, hb⟩
            have HAv7 := hide (HAv0.out.kept hb)
            have HBv7 := hide (HBv0.out.kept hb)
            clear hb
            (try go_wp2_with fail)
            refine hK.out _ _ (⟨HAv7.out, HBv7.out⟩) (fun hHeld => ?_)
            clear hK K hOld
            try simp only [Act.put, List.setIfInBounds_toArray, List.set_cons_zero, List.set_cons_succ]
            refine wpAnyH_take (i := 8) (oi := { dst := some 123, op := Op.call { callee := Callee.builtin Builtin.len, args := #[Operand.tmp 122], argTypes := #[22] }, type := 3, pos := "law.go:115", after := #[{ on := 7, ground := Ground.data }, { on := 5, ground := Ground.guard }], guard := some (5, true) }) (v := ?_) rfl (by kernel_rfl) (by kernel_rfl) (by kernel_rfl) (fun _ _ _ h => h) (Or.inl ⟨by kernel_rfl, ?_⟩) hHeld ?_
            rotate_left
            · (intro w hSw; (try dsimp only at hSw); go_simp); try with_reducible rfl
            try simp only [Act.put, List.setIfInBounds_toArray, List.set_cons_zero, List.set_cons_succ]
            refine wpAnyH_ready (rs := [10]) (by kernel_rfl) (by simp) (AllReadyH.cons (o := { dst := some 125, op := Op.call { callee := Callee.value (Operand.func 15), args := #[Operand.tmp 124], argTypes := #[26] }, type := 22, pos := "law.go:115", after := #[{ on := 9, ground := Ground.data }, { on := 7, ground := Ground.chain }, { on := 5, ground := Ground.guard }], guard := some (5, true) }) rfl (fun K hK => ?_) AllReadyH.nil)
            have hOld := hide hHeld
            clear hHeld
            go_simp
            refine (HLI.out _).mono ?_
            rintro e v10 ⟨x10, y10, rfl, -, hb⟩
            have HAv10 := hide (HAv7.out.kept hb)
            have HBv10 := hide (HBv7.out.kept hb)
            clear hb
            (try go_wp2_with fail)
            refine hK.out _ _ (⟨HAv10.out, HBv10.out⟩) (fun hHeld => ?_)
            clear hK K hOld
            try simp only [Act.put, List.setIfInBounds_toArray, List.set_cons_zero, List.set_cons_succ]
            refine wpAnyH_take (i := 11) (oi := { dst := some 126, op := Op.call { callee := Callee.builtin Builtin.len, args := #[Operand.tmp 125], argTypes := #[22] }, type := 3, pos := "law.go:115", after := #[{ on := 10, ground := Ground.data }, { on := 5, ground := Ground.guard }], guard := some (5, true) }) (v := ?_) rfl (by kernel_rfl) (by kernel_rfl) (by kernel_rfl) (fun _ _ _ h => h) (Or.inl ⟨by kernel_rfl, ?_⟩) hHeld ?_
            rotate_left
            · (intro w hSw; (try dsimp only at hSw); go_simp); try with_reducible rfl
            try simp only [Act.put, List.setIfInBounds_toArray, List.set_cons_zero, List.set_cons_succ]
            refine wpAnyH_take (i := 12) (oi := { dst := some 127, op := Op.binOp BinOp.eql 3 (Operand.tmp 123) (Operand.tmp 126) 3, type := 4, pos := "law.go:115", after := #[{ on := 8, ground := Ground.data }, { on := 11, ground := Ground.data }, { on := 5, ground := Ground.guard }], guard := some (5, true) }) (v := ?_) rfl (by kernel_rfl) (by kernel_rfl) (by kernel_rfl) (fun _ _ _ h => h) (Or.inl ⟨by kernel_rfl, ?_⟩) hHeld ?_
            rotate_left
            · (intro w hSw; (try dsimp only at hSw); go_simp); try with_reducible rfl
            try simp only [Act.put, List.setIfInBounds_toArray, List.set_cons_zero, List.set_cons_succ]
            refine wpAnyH_take (i := 13) (oi := { dst := some 128, op := Op.pick (Operand.tmp 120) (Operand.tmp 127) (Operand.const (Value.bool false)), type := 4, pos := "law.go:115", after := #[{ on := 5, ground := Ground.data }, { on := 12, ground := Ground.data }, { on := 2, ground := Ground.guard }], guard := some (2, false) }) (v := ?_) rfl (by kernel_rfl) (by kernel_rfl) (by kernel_rfl) (fun _ _ _ h => h) (Or.inl ⟨by kernel_rfl, ?_⟩) hHeld ?_
            rotate_left
            · (intro w hSw; (try dsimp only at hSw); go_simp); try with_reducible rfl
            try simp only [Act.put, List.setIfInBounds_toArray, List.set_cons_zero, List.set_cons_succ]
            refine wpAnyH_take (i := 14) (oi := { dst := some 129, op := Op.pick (Operand.tmp 117) (Operand.const (Value.bool true)) (Operand.tmp 128), type := 4, pos := "law.go:115", after := #[{ on := 2, ground := Ground.data }, { on := 13, ground := Ground.data }], guard := none }) (v := ?_) rfl (by kernel_rfl) (by kernel_rfl) (by kernel_rfl) (fun _ _ _ h => h) (Or.inl ⟨by kernel_rfl, ?_⟩) hHeld ?_
            rotate_left
            · (intro w hSw; (try dsimp only at hSw); go_simp); try with_reducible rfl
            try simp only [Act.put, List.setIfInBounds_toArray, List.set_cons_zero, List.set_cons_succ]
            refine wpAnyH_take (i := 15) (oi := { dst := some 6, op := Op.assign (Operand.tmp 129), type := 4, pos := "law.go:115", after := #[{ on := 14, ground := Ground.data }, { on := 10, ground := Ground.chain }, { on := 0, ground := Ground.phase }, { on := 1, ground := Ground.phase }, { on := 2, ground := Ground.phase }, { on := 3, ground := Ground.phase }, { on := 4, ground := Ground.phase }, { on := 5, ground := Ground.phase }, { on := 6, ground := Ground.phase }, { on := 7, ground := Ground.phase }, { on := 8, ground := Ground.phase }, { on := 9, ground := Ground.phase }, { on := 10, ground := Ground.phase }, { on := 11, ground := Ground.phase }, { on := 12, ground := Ground.phase }, { on := 13, ground := Ground.phase }, { on := 14, ground := Ground.phase }], guard := none }) (v := ?_) rfl (by kernel_rfl) (by kernel_rfl) (by kernel_rfl) (fun _ _ _ h => h) (Or.inl ⟨by kernel_rfl, ?_⟩) hHeld ?_
            rotate_left
            · (intro w hSw; (try dsimp only at hSw); go_simp); try with_reducible rfl
            try simp only [Act.put, List.setIfInBounds_toArray, List.set_cons_zero, List.set_cons_succ]
            refine wpAnyH_done (by kernel_rfl) ?_ _
            go_wp2_with fail
            go_ret
            exact ⟨rfl, HAv10.out.2.2⟩
          · have HPM := hide (fun W => HF2.out M hM1 hM2 hfm W)
            generalize bbtC 0 0 zeros32 = D at *
            refine (HPM.out _).mono ?_
            rintro e w6 ⟨rfl, hb6⟩
            have HA6 := hide (HA.out.kept hb6)
            clear hb6 HA HPM HF HF2 HBAD HBL HSD
            go_wp2_with (first | ((with_reducible show wpList _ _ _ _ _ w6); refine wpList_alloc0 w6 rfl 26 rfl (.pointer (some ⟨w6.heap.size, 0, none⟩)) (w6.alloc (.cells Z 26)) (HAZ.out w6) ?_) | ((with_reducible show wpList _ _ _ _ _ (World.alloc _ _)); refine wpList_storeR rfl 26 (.tmp 19) (.tmp 113) rfl w6.heap.size rfl D rfl Z (heap_new w6 _) HIZ.out HSZ.out HOZ.out ?_))
            have HA7 := hide (HA6.out.rowOld Z D)
            generalize (w6.alloc (.cells Z 26)).setRow w6.heap.size D = w7 at *
            generalize w6.heap.size = b19 at *
            clear HA6
            go_upto_region 23 with (fail)
            have HAv0 := hide HA7.out.drew
            clear HA7
            refine wp_region_held_drew (S := (fun W => RA w W b8 C)) (by kernel_rfl) (HAv0.out) (fun hHeld => ?_)
            generalize w7.drew = v0 at *
            refine wpAnyH_take (i := 0) (oi := { dst := some 115, op := Op.move (Operand.tmp 20), type := 27, pos := "law.go:115", after := #[], guard := none }) (v := ?_) rfl (by kernel_rfl) (by kernel_rfl) (by kernel_rfl) (fun _ _ _ h => h) (Or.inl ⟨by kernel_rfl, ?_⟩) hHeld ?_
            rotate_left
            · (intro w hSw; (try dsimp only at hSw); go_simp); try with_reducible rfl
            try simp only [Act.put, List.setIfInBounds_toArray, List.set_cons_zero, List.set_cons_succ]
            refine wpAnyH_take (i := 1) (oi := { dst := some 116, op := Op.binOp BinOp.eql 27 (Operand.tmp 115) (Operand.const (Value.int IntKind.i64 4)) 27, type := 4, pos := "law.go:115", after := #[{ on := 0, ground := Ground.data }], guard := none }) (v := ?_) rfl (by kernel_rfl) (by kernel_rfl) (by kernel_rfl) (fun _ _ _ h => h) (Or.inl ⟨by kernel_rfl, ?_⟩) hHeld ?_
            rotate_left
            · (intro w hSw; (try dsimp only at hSw); go_simp); try with_reducible rfl
            try simp only [Act.put, List.setIfInBounds_toArray, List.set_cons_zero, List.set_cons_succ]
            refine wpAnyH_take (i := 2) (oi := { dst := some 117, op := Op.move (Operand.tmp 116), type := 4, pos := "law.go:115", after := #[{ on := 1, ground := Ground.data }], guard := none }) (v := ?_) rfl (by kernel_rfl) (by kernel_rfl) (by kernel_rfl) (fun _ _ _ h => h) (Or.inl ⟨by kernel_rfl, ?_⟩) hHeld ?_
            rotate_left
            · (intro w hSw; (try dsimp only at hSw); go_simp); try with_reducible rfl
            try simp only [Act.put, List.setIfInBounds_toArray, List.set_cons_zero, List.set_cons_succ]
            refine wpAnyH_take (i := 3) (oi := { dst := some 118, op := Op.move (Operand.tmp 20), type := 27, pos := "law.go:115", after := #[{ on := 2, ground := Ground.guard }], guard := some (2, false) }) (v := undef) rfl (by kernel_rfl) (by kernel_rfl) (by kernel_rfl) (fun _ _ _ h => h) (Or.inr ⟨by kernel_rfl, rfl⟩) hHeld ?_
            try simp only [Act.put, List.setIfInBounds_toArray, List.set_cons_zero, List.set_cons_succ]
            refine wpAnyH_take (i := 4) (oi := { dst := some 119, op := Op.binOp BinOp.eql 27 (Operand.tmp 118) (Operand.const (Value.int IntKind.i64 0)) 27, type := 4, pos := "law.go:115", after := #[{ on := 3, ground := Ground.data }, { on := 2, ground := Ground.guard }], guard := some (2, false) }) (v := undef) rfl (by kernel_rfl) (by kernel_rfl) (by kernel_rfl) (fun _ _ _ h => h) (Or.inr ⟨by kernel_rfl, rfl⟩) hHeld ?_
            try simp only [Act.put, List.setIfInBounds_toArray, List.set_cons_zero, List.set_cons_succ]
            refine wpAnyH_take (i := 5) (oi := { dst := some 120, op := Op.move (Operand.tmp 119), type := 4, pos := "law.go:115", after := #[{ on := 4, ground := Ground.data }, { on := 2, ground := Ground.chain }, { on := 2, ground := Ground.guard }], guard := some (2, false) }) (v := undef) rfl (by kernel_rfl) (by kernel_rfl) (by kernel_rfl) (fun _ _ _ h => h) (Or.inr ⟨by kernel_rfl, rfl⟩) hHeld ?_
            try simp only [Act.put, List.setIfInBounds_toArray, List.set_cons_zero, List.set_cons_succ]
            refine wpAnyH_take (i := 6) (oi := { dst := some 121, op := Op.load 26 (Operand.tmp 19), type := 26, pos := "law.go:115", after := #[{ on := 5, ground := Ground.guard }], guard := some (5, true) }) (v := undef) rfl (by kernel_rfl) (by kernel_rfl) (by kernel_rfl) (fun _ _ _ h => h) (Or.inr ⟨by kernel_rfl, rfl⟩) hHeld ?_
            try simp only [Act.put, List.setIfInBounds_toArray, List.set_cons_zero, List.set_cons_succ]
            refine wpAnyH_take (i := 7) (oi := { dst := some 122, op := Op.call { callee := Callee.value (Operand.func 15), args := #[Operand.tmp 121], argTypes := #[26] }, type := 22, pos := "law.go:115", after := #[{ on := 6, ground := Ground.data }, { on := 5, ground := Ground.chain }, { on := 5, ground := Ground.guard }], guard := some (5, true) }) (v := undef) rfl (by kernel_rfl) (by kernel_rfl) (by kernel_rfl) (fun _ _ _ h => h) (Or.inr ⟨by kernel_rfl, rfl⟩) hHeld ?_
            try simp only [Act.put, List.setIfInBounds_toArray, List.set_cons_zero, List.set_cons_succ]
            refine wpAnyH_take (i := 8) (oi := { dst := some 123, op := Op.call { callee := Callee.builtin Builtin.len, args := #[Operand.tmp 122], argTypes := #[22] }, type := 3, pos := "law.go:115", after := #[{ on := 7, ground := Ground.data }, { on := 5, ground := Ground.guard }], guard := some (5, true) }) (v := undef) rfl (by kernel_rfl) (by kernel_rfl) (by kernel_rfl) (fun _ _ _ h => h) (Or.inr ⟨by kernel_rfl, rfl⟩) hHeld ?_
            try simp only [Act.put, List.setIfInBounds_toArray, List.set_cons_zero, List.set_cons_succ]
            refine wpAnyH_take (i := 9) (oi := { dst := some 124, op := Op.load 26 (Operand.tmp 8), type := 26, pos := "law.go:115", after := #[{ on := 5, ground := Ground.guard }], guard := some (5, true) }) (v := undef) rfl (by kernel_rfl) (by kernel_rfl) (by kernel_rfl) (fun _ _ _ h => h) (Or.inr ⟨by kernel_rfl, rfl⟩) hHeld ?_
            try simp only [Act.put, List.setIfInBounds_toArray, List.set_cons_zero, List.set_cons_succ]
            refine wpAnyH_take (i := 10) (oi := { dst := some 125, op := Op.call { callee := Callee.value (Operand.func 15), args := #[Operand.tmp 124], argTypes := #[26] }, type := 22, pos := "law.go:115", after := #[{ on := 9, ground := Ground.data }, { on := 7, ground := Ground.chain }, { on := 5, ground := Ground.guard }], guard := some (5, true) }) (v := undef) rfl (by kernel_rfl) (by kernel_rfl) (by kernel_rfl) (fun _ _ _ h => h) (Or.inr ⟨by kernel_rfl, rfl⟩) hHeld ?_
            try simp only [Act.put, List.setIfInBounds_toArray, List.set_cons_zero, List.set_cons_succ]
            refine wpAnyH_take (i := 11) (oi := { dst := some 126, op := Op.call { callee := Callee.builtin Builtin.len, args := #[Operand.tmp 125], argTypes := #[22] }, type := 3, pos := "law.go:115", after := #[{ on := 10, ground := Ground.data }, { on := 5, ground := Ground.guard }], guard := some (5, true) }) (v := undef) rfl (by kernel_rfl) (by kernel_rfl) (by kernel_rfl) (fun _ _ _ h => h) (Or.inr ⟨by kernel_rfl, rfl⟩) hHeld ?_
            try simp only [Act.put, List.setIfInBounds_toArray, List.set_cons_zero, List.set_cons_succ]
            refine wpAnyH_take (i := 12) (oi := { dst := some 127, op := Op.binOp BinOp.eql 3 (Operand.tmp 123) (Operand.tmp 126) 3, type := 4, pos := "law.go:115", after := #[{ on := 8, ground := Ground.data }, { on := 11, ground := Ground.data }, { on := 5, ground := Ground.guard }], guard := some (5, true) }) (v := undef) rfl (by kernel_rfl) (by kernel_rfl) (by kernel_rfl) (fun _ _ _ h => h) (Or.inr ⟨by kernel_rfl, rfl⟩) hHeld ?_
            try simp only [Act.put, List.setIfInBounds_toArray, List.set_cons_zero, List.set_cons_succ]
            refine wpAnyH_take (i := 13) (oi := { dst := some 128, op := Op.pick (Operand.tmp 120) (Operand.tmp 127) (Operand.const (Value.bool false)), type := 4, pos := "law.go:115", after := #[{ on := 5, ground := Ground.data }, { on := 12, ground := Ground.data }, { on := 2, ground := Ground.guard }], guard := some (2, false) }) (v := undef) rfl (by kernel_rfl) (by kernel_rfl) (by kernel_rfl) (fun _ _ _ h => h) (Or.inr ⟨by kernel_rfl, rfl⟩) hHeld ?_
            try simp only [Act.put, List.setIfInBounds_toArray, List.set_cons_zero, List.set_cons_succ]
            refine wpAnyH_take (i := 14) (oi := { dst := some 129, op := Op.pick (Operand.tmp 117) (Operand.const (Value.bool true)) (Operand.tmp 128), type := 4, pos := "law.go:115", after := #[{ on := 2, ground := Ground.data }, { on := 13, ground := Ground.data }], guard := none }) (v := ?_) rfl (by kernel_rfl) (by kernel_rfl) (by kernel_rfl) (fun _ _ _ h => h) (Or.inl ⟨by kernel_rfl, ?_⟩) hHeld ?_
            rotate_left
            · (intro w hSw; (try dsimp only at hSw); go_simp); try with_reducible rfl
            try simp only [Act.put, List.setIfInBounds_toArray, List.set_cons_zero, List.set_cons_succ]
            refine wpAnyH_take (i := 15) (oi := { dst := some 6, op := Op.assign (Operand.tmp 129), type := 4, pos := "law.go:115", after := #[{ on := 14, ground := Ground.data }, { on := 10, ground := Ground.chain }, { on := 0, ground := Ground.phase }, { on := 1, ground := Ground.phase }, { on := 2, ground := Ground.phase }, { on := 3, ground := Ground.phase }, { on := 4, ground := Ground.phase }, { on := 5, ground := Ground.phase }, { on := 6, ground := Ground.phase }, { on := 7, ground := Ground.phase }, { on := 8, ground := Ground.phase }, { on := 9, ground := Ground.phase }, { on := 10, ground := Ground.phase }, { on := 11, ground := Ground.phase }, { on := 12, ground := Ground.phase }, { on := 13, ground := Ground.phase }, { on := 14, ground := Ground.phase }], guard := none }) (v := ?_) rfl (by kernel_rfl) (by kernel_rfl) (by kernel_rfl) (fun _ _ _ h => h) (Or.inl ⟨by kernel_rfl, ?_⟩) hHeld ?_
            rotate_left
            · (intro w hSw; (try dsimp only at hSw); go_simp); try with_reducible rfl
            try simp only [Act.put, List.setIfInBounds_toArray, List.set_cons_zero, List.set_cons_succ]
            refine wpAnyH_done (by kernel_rfl) ?_ _
            go_wp2_with fail
            go_ret
            exact ⟨rfl, HAv0.out.2.2⟩
theorem bbtBack_all (b : Int) (b0 : 0 ≤ b) (b1 : b ≤ 255) (v : Value) (w : World) (hv : ∃ zs : List Int, NumsAt w .u8 v zs ∧ (∀ z ∈ zs, (Lit.int .u8 z).wf = true) ∧ zs.length ≤ maxLen) (t : Int) (t0 : 0 ≤ t) (t1 : t ≤ 255) :
    Calls Try.prog 4 #[.int .u8 b, v, .int .u8 t] w fun e w' => e = .returned (.bool true) ∧ Below w.heap.size w w' := by
  obtain ⟨zs, hz, hw, hm⟩ := hv
  obtain ⟨a, cap, rfl, hc, hat⟩ := nums_at hz
  unfold maxLen at hm
  obtain ⟨t', rfl⟩ := Int.eq_ofNat_of_zero_le t0
  obtain ⟨b', rfl⟩ := Int.eq_ofNat_of_zero_le b0
  exact bbtBack_walk b' (by omega) zs hw a cap hc (by omega) t' (by omega) w hat

set_option maxRecDepth 100000 in
theorem bbtBack_lifted (os : Os) (started : os.Started) (H : Type) (enc : TypeId × Value → H) :
    ReturnsInHanded {} Try.checked os 4 .any (Rows.bbtBackSpec.pre6 enc Try.prog Try.f4 Rows.bbtBackRow.domain false) (Rows.bbtBackSpec.post enc Try.prog Try.f4 false true false false) := by
  refine returnsInHanded_of_change (C := Try.checked) own started (by kernel_rfl) Try.func4
    (ChangeSpec.witness6 (enc := enc) (C := Try.checked) false ⟨#[], #[.int .u8 0, .slice none 0 0, .int .u8 0], []⟩ 8 (by kernel_rfl) (by kernel_rfl) (by kernel_rfl) (by kernel_rfl)) ?_
  intro W base args ds gs before hval0 hW _ _
  have hval : ∀ (j : Nat) t v, Try.f4.params[j]? = some t → args[j]? = some v → Value.okWide Try.prog W .any base t v := hval0
  have hW' := hW
  obtain ⟨p, q, hA0, hV, rfl, hfz, hnd⟩ := hW
  have hA : DataW.TrodAll enc Try.prog W 0 (fun _ => true) true Try.f4.params.toList args.toList ds p := hA0
  rw [Try.params4] at hA hval
  obtain ⟨v0, vs0, d0, ds0, p0, q0, hargs, rfl, rfl, h0, r0⟩ := trodAll_cons hA
  obtain ⟨v1, vs1, d1, ds1, p1, q1, rfl, rfl, rfl, h1, r1⟩ := trodAll_cons r0
  obtain ⟨v2, vs2, d2, ds2, p2, q2, rfl, rfl, rfl, h2, r2⟩ := trodAll_cons r1
  obtain ⟨rfl, rfl, rfl⟩ := trodAll_nil r2
  obtain rfl : args = #[v0, v1, v2] := by cases args; simp_all
  obtain ⟨rfl, rfl⟩ := trodVars_none hV
  obtain ⟨b, rfl, rfl, rfl, w0⟩ := open_int Try.underlying5 (hval 0 5 v0 rfl rfl) h0
  have z0 := wf_u8 w0
  have z1 := open_nums_slice Try.underlying39 Try.underlying5 (by kernel_rfl) (hval 1 39 v1 rfl rfl) h1
  obtain ⟨t, rfl, rfl, rfl, w2⟩ := open_int Try.underlying5 (hval 2 5 v2 rfl rfl) h2
  have z2 := wf_u8 w2
  clear hA0 hval0
  refine (bbtBack_all b z0.1 z0.2 v1 W z1 t z2.1 z2.2).mono fun e W' ⟨he, hb⟩ => ?_
  subst he
  exact ⟨_, rfl, post_law laidOut (of_decide_eq_true (by kernel_rfl)) rfl rfl Try.underlying4 hW' ⟨rfl, rfl, rfl⟩ hb⟩

/-- THE STATEMENT -/
theorem bbtBack_holds : Rows.BbtBackSaid :=
  OpenClaim.holds_of_wide 4 Try.f4 rfl rfl rfl rfl rfl rfl rfl ⟨rfl, rfl, rfl, rfl, rfl⟩ rfl rfl rfl rfl rfl (by kernel_rfl) Try.func4 (by kernel_rfl)
    (of_decide_eq_true (by kernel_rfl)) (by unfold Func.isWrapper; first | (rw [if_pos (by decide +kernel)]; kernel_rfl) | (rw [if_neg (by decide +kernel)]; exact ⟨rfl, rfl⟩))
    (fun os started H enc _ => bbtBack_lifted os started H enc)

end Go.Proofs.Ytfphkldpjfackaa
