/-
  Layer 16: MoveOnce: what is cleared has nothing to be cleared any more.
-/
import Derived.Test.YtmcaegbggblfpaaGreatPk20
--import Derived.Test.Zdbg
namespace Go.Proofs.YtmcaegbggblfpaaGreat
set_option linter.unusedSimpArgs false
set_option linter.unusedVariables false
open Go.RowKit Go.WideShapes Go.ChangeShapes Go.ChangeAt Go.Deep W

theorem getD_mem16 (zs : List Int) (i : Nat) (h : i < zs.length) : zs.getD i 0 ∈ zs := by
  simp [List.getD, h]
set_option maxRecDepth 100000 in
set_option maxHeartbeats 16000000 in
theorem moveOnce_walk (v : Value) (bk : Int) (k0 : 0 ≤ bk) (k1 : bk ≤ 255) (w : World) (hv : ∃ zs : List Int, NumsAt w .u8 v zs ∧ (∀ z ∈ zs, (Lit.int .u8 z).wf = true) ∧ zs.length ≤ maxLen) : Calls Tryz.prog 6 #[v, .int .u8 bk] w fun e w' => e = .returned (.bool true) ∧ Below w.heap.size w w' := by
  obtain ⟨zs, hz, hwf, hzl⟩ := hv
  obtain ⟨za, zcap, rfl, hzc, hel⟩ := nums16 hz
  have HFR := hide (fun W => fresh16 W)
  unfold Fresh16 at HFR
  have HWK := hide (fun W => wakes16 W)
  obtain ⟨Xs, hX0⟩ : ∃ Xs, mvX0 = Xs := ⟨_, rfl⟩
  have HC0 := hide (show capX 4 Xs + ((0 : Nat) : Int) = 24 ∧ Xs.M.length = 6 by rw [← hX0]; exact ⟨capX_new, rfl⟩)
  have HOK0 := hide (show HOk 8 4 32 0 Xs by rw [← hX0]; exact mvX0_ok)
  rw [hX0] at HFR
  clear hX0
  obtain ⟨m, hm⟩ : ∃ m, min zs.length 12 = m := ⟨_, rfl⟩
  have HM12 := hide (show m ≤ 12 by omega)
  have HMZ := hide (show m ≤ zs.length by omega)
  have hjF : (if (12 : Int) < (zs.length : Int) then (12 : Int) else (zs.length : Int)) = (m : Int) := by split <;> omega
  have hjI : min (zs.length : Int) 12 = (m : Int) := by omega
  have hjc : (m : Int) ≤ (zcap : Int) := by omega
  have HWF := hide (show ∀ z ∈ zs, 0 ≤ z ∧ z ≤ 255 from fun z hz => by have := wf_u8 (hwf z hz); omega)
  have HBK := hide (And.intro k0 k1)
  obtain ⟨B0, hB0⟩ : ∃ B0, w.heap.size = B0 := ⟨_, rfl⟩
  rw [hB0] at hel ⊢
  have HEL := hide (fun i (hi : i < m) => hel i (by omega))
  clear hz hwf hzl hzc hel hm k0 k1
  go_enter Tryz.func6, Tryz.ntmps6
  go_wp2_with fail
  refine (HFR.out _).mono ?_
  rintro e w1 ⟨A, rfl, hm, hb⟩
  rw [hB0] at hm hb
  have X1 := hide hm
  have B1 := hide hb
  clear hm hb HFR hB0
  go_upto_region 2 with (refine rw_store rfl 29 (.tmp 6) (.tmp 26) rfl w1.heap.size rfl #[.pointer (some ⟨A.d, 0, none⟩), .pointer (some ⟨A.pp, 0, none⟩), .pointer (some ⟨A.sb, 0, none⟩), .pointer (some ⟨A.mp, 0, none⟩)] rfl _ (heap_new w1 _) (by kernel_rfl) rfl (by simp [Value.oneCell']) ?_)
  have XB := hide (heap_new w1 (.cells #[.pointer none, .pointer none, .pointer none, .pointer none] 29))
  have hal := (Below.refl w1.heap.size w1).alloc (Nat.le_refl _) (.cells #[.pointer none, .pointer none, .pointer none, .pointer none] 29)
  have hbb := setRow_below (hal.trans (Below.refl _ _)) (Nat.le_refl _) hal.size (#[.pointer (some ⟨A.d, 0, none⟩), .pointer (some ⟨A.pp, 0, none⟩), .pointer (some ⟨A.sb, 0, none⟩), .pointer (some ⟨A.mp, 0, none⟩)] : Array Value)
  have M2 := hide (setRow_same (cs := (#[.pointer (some ⟨A.d, 0, none⟩), .pointer (some ⟨A.pp, 0, none⟩), .pointer (some ⟨A.sb, 0, none⟩), .pointer (some ⟨A.mp, 0, none⟩)] : Array Value)) XB.out)
  have X2 := hide (X1.out.below hbb)
  have B2 := hide (B1.out.trans (hbb.mono X1.out.size))
  clear hal hbb XB X1 B1 
  generalize (w1.alloc (.cells #[.pointer none, .pointer none, .pointer none, .pointer none] 29)).setRow w1.heap.size (#[.pointer (some ⟨A.d, 0, none⟩), .pointer (some ⟨A.pp, 0, none⟩), .pointer (some ⟨A.sb, 0, none⟩), .pointer (some ⟨A.mp, 0, none⟩)] : Array Value) = w2 at *
  generalize w1.heap.size = mb at *
  (try rw [show ∀ (a : Act) (v : Value), a.put none v = a from fun _ _ => rfl])
  go_wp2_with fail
  refine (HWK.out _).mono ?_
  rintro e w3 ⟨rfl, hb⟩
  have M3 := hide ((hb.block _ (heap_lt M2.out)).trans M2.out)
  have X3 := hide (X2.out.below hb)
  have B3 := hide (B2.out.trans (hb.mono X2.out.size))
  clear hb X2 B2 M2
  go_wp2_with fail
  go_loopw [40] (fun s W => ∃ (i : Nat) (V : MvS), i ≤ m ∧ s = .int .i64 (i : Int) ∧ HOk 8 4 32 (3 * (i : Int)) V ∧ capX 4 V + (i : Int) = 24 ∧ V.M.length = 6 ∧ MvAt W B0 A 8 4 V ∧ W.heap[mb]? = some (.cells #[.pointer (some ⟨A.d, 0, none⟩), .pointer (some ⟨A.pp, 0, none⟩), .pointer (some ⟨A.sb, 0, none⟩), .pointer (some ⟨A.mp, 0, none⟩)] 29 (0, 0)) ∧ Below B0 w W) (fun s _ => m - (intOf s).toNat)
  case atStart => exact ⟨0, Xs, by omega, rfl, HOK0.out.mono (by omega), HC0.out.1, HC0.out.2, X3.out, M3.out, B3.out⟩
  case round =>
    obtain ⟨i, V, him, rfl, hy, hcap, hlen, hx, hm, hb⟩ := hrel
    have V4 := hide hy
    have C4 := hide hcap
    have L4 := hide hlen
    have Xr := hide hx
    have Mr := hide hm
    have Br := hide hb
    clear hy hcap hlen hx hm hb X3 M3 B3 HOK0 HC0 HWK
    rcases Nat.lt_or_ge i m with hlt | hge
    · have hI : (i : Int) < (m : Int) := by omega
      have HLT := hide hlt
      obtain ⟨b, off, rfl, hbl, hcl⟩ := HEL.out i hlt
      have hcl2 := (cell_keep' Br.out hbl).trans hcl
      have hwf := HWF.out (zs.getD i 0) (getD_mem16 zs i (by have := HMZ.out; omega))
      obtain ⟨x, hx⟩ : ∃ x : Nat, zs.getD i 0 = (x : Int) := ⟨(zs.getD i 0).toNat, by omega⟩
      rw [hx] at hcl2 hwf
      have HX8 := hide (show x < 256 by omega)
      obtain ⟨l, hl⟩ : ∃ l : Nat, x % 6 = l := ⟨_, rfl⟩
      have HL6 := hide (show l < 6 by omega)
      have htm : (x : Int).tmod 6 = (l : Int) := by rw [Int.tmod_eq_emod_of_nonneg (by omega)]; omega
      obtain ⟨lz, hlz⟩ : ∃ z : Int, (l : Int) = z := ⟨_, rfl⟩
      have HLZ := hide hlz
      rw [hlz] at htm
      have hI12 : (i : Int) < 12 := by have := HM12.out; have := HLT.out; omega
      obtain ⟨td, htb, htl⟩ := bytes_list (fullB ⟨#[UInt8.ofNat x]⟩ 32)
      rw [fullB_size] at htl
      have HFU := hide (fun W => full16_any ⟨#[UInt8.ofNat x]⟩ (show 1 ≤ 1000000 by decide) 32 (by decide) W)
      rw [htb] at HFU
      have HPU := hide (fun W (hW : MvAt W B0 A 8 4 V) => put16 V4.out (by have := HM12.out; have := HLT.out; omega) (by decide) (by decide) (by decide) (V4.out.cap_room (by have := C4.out; have := HM12.out; have := HLT.out; omega)) ⟨1, lz, (i : Int) + 1, 0, 1⟩ (tg_ok16 lz i (by have := HLZ.out; have := HL6.out; omega) (by have := HM12.out; have := HLT.out; omega)) td htl W hW)
      unfold Put16 at HPU
      dsimp only at HPU
      have hwx : wrap64 (x : Int) = (x : Int) := wrap_sm _ (by have := HX8.out; omega)
      have hwu : IntKind.u64.wrap ((i : Int) + 1) = (i : Int) + 1 := u64_id16 _ (by clear hwx; omega) (by clear hwx; omega)
      clear hcl hbl hwf hx hl hlz him hlt htb htl
      go_upto_region 8 with (refine rw_store rfl 51 (.tmp 10) (.tmp 51) rfl wr.heap.size rfl #[.int .u8 1, .int .i64 lz, .int .u64 ((i : Int) + 1), .int .i64 0, .int .i64 1] rfl _ (heap_new wr _) (by kernel_rfl) rfl (by simp [Value.oneCell']) ?_)
      have XB := hide (heap_new wr (.cells #[.int .u8 0, .int .i64 0, .int .u64 0, .int .i64 0, .int .i64 0] 51))
      have hal := (Below.refl wr.heap.size wr).alloc (Nat.le_refl _) (.cells #[.int .u8 0, .int .i64 0, .int .u64 0, .int .i64 0, .int .i64 0] 51)
      have hbb := setRow_below (hal.trans (Below.refl _ _)) (Nat.le_refl _) hal.size (#[.int .u8 1, .int .i64 lz, .int .u64 ((i : Int) + 1), .int .i64 0, .int .i64 1] : Array Value)
      have T5 := hide (setRow_same (cs := (#[.int .u8 1, .int .i64 lz, .int .u64 ((i : Int) + 1), .int .i64 0, .int .i64 1] : Array Value)) XB.out)
      have M5 := hide ((hbb.block _ (heap_lt Mr.out)).trans Mr.out)
      have X5 := hide (Xr.out.below hbb)
      have B5 := hide (Br.out.trans (hbb.mono Xr.out.size))
      clear hal hbb XB Xr Br Mr
      generalize (wr.alloc (.cells #[.int .u8 0, .int .i64 0, .int .u64 0, .int .i64 0, .int .i64 0] 51)).setRow wr.heap.size (#[.int .u8 1, .int .i64 lz, .int .u64 ((i : Int) + 1), .int .i64 0, .int .i64 1] : Array Value) = w5 at *
      generalize wr.heap.size = tb at *
      (try rw [show ∀ (a : Act) (v : Value), a.put none v = a from fun _ _ => rfl])
      have X0 := hide X5.out.drew
      have M0 := hide (show w5.drew.heap[mb]? = _ from M5.out)
      have T0 := hide (show w5.drew.heap[tb]? = _ from T5.out)
      have BB0 := hide (show Below B0 w w5.drew from B5.out.drew)
      clear X5 M5 T5 B5 hwu hwx htm hcl2 hI hI12
      go_cut [11, 12] from 52 to 63 (fun s11 s12 W => ∃ (ab k j : Nat) (Y : MvS), s11 = .pointer (some ⟨ab, 0, none⟩) ∧ s12 = .int .i64 0 ∧ PutX 8 4 32 (3 * (i : Int)) V Y k j ⟨1, lz, (i : Int) + 1, 0, 1⟩ td ∧ MvAt W B0 A 8 4 Y ∧ W.heap[ab]? = some (.cells #[.int .i64 (k : Int), .int .i64 (j : Int)] 53 (0, 0)) ∧ W.heap[mb]? = some (.cells #[.pointer (some ⟨A.d, 0, none⟩), .pointer (some ⟨A.pp, 0, none⟩), .pointer (some ⟨A.sb, 0, none⟩), .pointer (some ⟨A.mp, 0, none⟩)] 29 (0, 0)) ∧ W.heap[tb]? = some (.cells #[.int .u8 1, .int .i64 lz, .int .u64 ((i : Int) + 1), .int .i64 0, .int .i64 1] 51 (0, 0)) ∧ Below B0 w W)
      case first =>
        refine wp_region_held_drew (S := (fun W => W.heap[mb]? = some (.cells #[.pointer (some ⟨A.d, 0, none⟩), .pointer (some ⟨A.pp, 0, none⟩), .pointer (some ⟨A.sb, 0, none⟩), .pointer (some ⟨A.mp, 0, none⟩)] 29 (0, 0)) ∧ W.heap[tb]? = some (.cells #[.int .u8 1, .int .i64 lz, .int .u64 ((i : Int) + 1), .int .i64 0, .int .i64 1] 51 (0, 0)))) (by kernel_rfl) (⟨M0.out, T0.out⟩) (fun hHeld => ?_)
        generalize w5.drew = v0 at *
        refine wpAnyH_take (i := 0) (oi := { dst := some 53, op := Op.fieldAddr 29 (Operand.tmp 6) 2, type := 0, pos := "law.go:184", after := #[], guard := none }) (v := ?_) rfl (by kernel_rfl) (by kernel_rfl) (by kernel_rfl) (fun _ _ _ h => h) (Or.inl ⟨by kernel_rfl, ?_⟩) hHeld ?_
        rotate_left
        · (intro w hSw; (try dsimp only at hSw); have m0 := cell_of_block hSw.1 0; have m1 := cell_of_block hSw.1 1; have m2 := cell_of_block hSw.1 2; have m3 := cell_of_block hSw.1 3; have e0 := cell_of_block hSw.2 0; have e1 := cell_of_block hSw.2 1; have e2 := cell_of_block hSw.2 2; have e3 := cell_of_block hSw.2 3; have e4 := cell_of_block hSw.2 4; go_simp); try with_reducible rfl
        try simp only [Act.put, List.setIfInBounds_toArray, List.set_cons_zero, List.set_cons_succ]
        refine wpAnyH_take (i := 1) (oi := { dst := some 54, op := Op.load 26 (Operand.tmp 53), type := 26, pos := "law.go:184", after := #[{ on := 0, ground := Ground.data }], guard := none }) (v := ?_) rfl (by kernel_rfl) (by kernel_rfl) (by kernel_rfl) (fun _ _ _ h => h) (Or.inl ⟨by kernel_rfl, ?_⟩) hHeld ?_
        rotate_left
        · (intro w hSw; (try dsimp only at hSw); have m0 := cell_of_block hSw.1 0; have m1 := cell_of_block hSw.1 1; have m2 := cell_of_block hSw.1 2; have m3 := cell_of_block hSw.1 3; have e0 := cell_of_block hSw.2 0; have e1 := cell_of_block hSw.2 1; have e2 := cell_of_block hSw.2 2; have e3 := cell_of_block hSw.2 3; have e4 := cell_of_block hSw.2 4; go_simp); try with_reducible rfl
        try simp only [Act.put, List.setIfInBounds_toArray, List.set_cons_zero, List.set_cons_succ]
        refine wpAnyH_take (i := 2) (oi := { dst := some 55, op := Op.load 51 (Operand.tmp 10), type := 51, pos := "law.go:184", after := #[], guard := none }) (v := ?_) rfl (by kernel_rfl) (by kernel_rfl) (by kernel_rfl) (fun _ _ _ h => h) (Or.inl ⟨by kernel_rfl, ?_⟩) hHeld ?_
        rotate_left
        · (intro w hSw; (try dsimp only at hSw); have m0 := cell_of_block hSw.1 0; have m1 := cell_of_block hSw.1 1; have m2 := cell_of_block hSw.1 2; have m3 := cell_of_block hSw.1 3; have e0 := cell_of_block hSw.2 0; have e1 := cell_of_block hSw.2 1; have e2 := cell_of_block hSw.2 2; have e3 := cell_of_block hSw.2 3; have e4 := cell_of_block hSw.2 4; go_simp); try with_reducible rfl
        try simp only [Act.put, List.setIfInBounds_toArray, List.set_cons_zero, List.set_cons_succ]
        refine wpAnyH_take (i := 3) (oi := { dst := some 56, op := Op.move (Operand.tmp 9), type := 5, pos := "law.go:184", after := #[], guard := none }) (v := ?_) rfl (by kernel_rfl) (by kernel_rfl) (by kernel_rfl) (fun _ _ _ h => h) (Or.inl ⟨by kernel_rfl, ?_⟩) hHeld ?_
        rotate_left
        · (intro w hSw; (try dsimp only at hSw); have m0 := cell_of_block hSw.1 0; have m1 := cell_of_block hSw.1 1; have m2 := cell_of_block hSw.1 2; have m3 := cell_of_block hSw.1 3; have e0 := cell_of_block hSw.2 0; have e1 := cell_of_block hSw.2 1; have e2 := cell_of_block hSw.2 2; have e3 := cell_of_block hSw.2 3; have e4 := cell_of_block hSw.2 4; go_simp); try with_reducible rfl
        try simp only [Act.put, List.setIfInBounds_toArray, List.set_cons_zero, List.set_cons_succ]
        refine wpAnyH_ready (rs := [4, 11]) (by kernel_rfl) (by simp) (AllReadyH.cons (o := { dst := some 57, op := Op.buildSlice 66 1 #[(0, Operand.tmp 56)], type := 66, pos := "law.go:184", after := #[{ on := 3, ground := Ground.data }], guard := none }) rfl (fun K hK => ?_) (AllReadyH.cons (o := { dst := some 11, op := Op.alloc 53, type := 0, pos := "law.go:184", after := #[], guard := none }) rfl (fun K hK => ?_) AllReadyH.nil))
        · have hOld := hide hHeld
          clear hHeld
          go_simp
          obtain ⟨ob, hob⟩ : ∃ ob, ob = Obj.cells #[.int .u8 (x : Int)] 5 := ⟨_, rfl⟩
          try rw [← hob]
          have hal := (Below.refl v0.heap.size v0).alloc (Nat.le_refl _) ob
          have X1 := hide (X0.out.below hal)
          have M1 := hide ((hal.block _ (heap_lt M0.out)).trans M0.out)
          have T1 := hide ((hal.block _ (heap_lt T0.out)).trans T0.out)
          have BB1 := hide (BB0.out.trans (hal.mono X0.out.size))
          have hnb := heap_new v0 ob
          clear hal
          generalize v0.alloc ob = v1 at *
          generalize v0.heap.size = nb at *
          rw [hob] at hnb
          have N1 := hide hnb
          clear hob hnb
          (try go_wp2_with fail)
          refine hK.out _ _ (⟨M1.out, T1.out⟩) (fun hHeld => ?_)
          clear hK K hOld
          try simp only [Act.put, List.setIfInBounds_toArray, List.set_cons_zero, List.set_cons_succ]
          refine wpAnyH_ready (rs := [5, 11]) (by kernel_rfl) (by simp) (AllReadyH.cons (o := { dst := some 58, op := Op.convert 66 9 (Operand.tmp 57), type := 9, pos := "law.go:184", after := #[{ on := 4, ground := Ground.data }], guard := none }) rfl (fun K hK => ?_) (AllReadyH.cons (o := { dst := some 11, op := Op.alloc 53, type := 0, pos := "law.go:184", after := #[], guard := none }) rfl (fun K hK => ?_) AllReadyH.nil))
          · have hOld := hide hHeld
            clear hHeld
            go_simp
            have hcv := byte_text v1 nb x HX8.out N1.out
            try simp only [hcv, Result.andThen]
            clear hcv
            (try go_wp2_with fail)
            refine hK.out _ _ (⟨M1.out, T1.out⟩) (fun hHeld => ?_)
            clear hK K hOld
            try simp only [Act.put, List.setIfInBounds_toArray, List.set_cons_zero, List.set_cons_succ]
            refine wpAnyH_ready (rs := [6, 11]) (by kernel_rfl) (by simp) (AllReadyH.cons (o := { dst := some 59, op := Op.call { callee := Callee.value (Operand.func 9), args := #[Operand.tmp 58, Operand.const (Value.int IntKind.i64 32)], argTypes := #[9, 3] }, type := 9, pos := "law.go:184", after := #[{ on := 5, ground := Ground.data }], guard := none }) rfl (fun K hK => ?_) (AllReadyH.cons (o := { dst := some 11, op := Op.alloc 53, type := 0, pos := "law.go:184", after := #[], guard := none }) rfl (fun K hK => ?_) AllReadyH.nil))
            · have hOld := hide hHeld
              clear hHeld
              go_simp
              refine (HFU.out _).mono ?_
              rintro e v2 ⟨rfl, hb⟩
              have X2 := hide (X1.out.below hb)
              have M2 := hide ((hb.block _ (heap_lt M1.out)).trans M1.out)
              have T2 := hide ((hb.block _ (heap_lt T1.out)).trans T1.out)
              have BB2 := hide (BB1.out.trans (hb.mono X1.out.size))
              clear hb
              (try go_wp2_with fail)
              refine hK.out _ _ (⟨M2.out, T2.out⟩) (fun hHeld => ?_)
              clear hK K hOld
              try simp only [Act.put, List.setIfInBounds_toArray, List.set_cons_zero, List.set_cons_succ]
              refine wpAnyH_ready (rs := [7, 11]) (by kernel_rfl) (by simp) (AllReadyH.cons (o := { dst := some 60, op := Op.call { callee := Callee.value (Operand.func 16), args := #[Operand.tmp 54, Operand.tmp 55, Operand.tmp 59], argTypes := #[26, 51, 9] }, type := 54, pos := "law.go:184", after := #[{ on := 1, ground := Ground.data }, { on := 2, ground := Ground.data }, { on := 6, ground := Ground.data }, { on := 6, ground := Ground.chain }], guard := none }) rfl (fun K hK => ?_) (AllReadyH.cons (o := { dst := some 11, op := Op.alloc 53, type := 0, pos := "law.go:184", after := #[], guard := none }) rfl (fun K hK => ?_) AllReadyH.nil))
              · have hOld := hide hHeld
                clear hHeld
                go_simp
                refine (HPU.out _ X2.out).mono ?_
                rintro e v3 ⟨Y, k, j, rfl, hp, hs, hb⟩
                have HP := hide hp
                have X3 := hide hs
                have M3 := hide (hb.2.cells M2.out (by decide))
                have T3 := hide (hb.2.cells T2.out (by decide))
                have BB3 := hide (BB2.out.trans hb.1)
                clear hp hs hb
                (try go_wp2_with fail)
                refine hK.out _ _ (⟨M3.out, T3.out⟩) (fun hHeld => ?_)
                clear hK K hOld
                try simp only [Act.put, List.setIfInBounds_toArray, List.set_cons_zero, List.set_cons_succ]
                refine wpAnyH_take (i := 8) (oi := { dst := some 52, op := Op.move (Operand.tmp 60), type := 54, pos := "law.go:184", after := #[{ on := 7, ground := Ground.data }], guard := none }) (v := ?_) rfl (by kernel_rfl) (by kernel_rfl) (by kernel_rfl) (fun _ _ _ h => h) (Or.inl ⟨by kernel_rfl, ?_⟩) hHeld ?_
                rotate_left
                · (intro w hSw; (try dsimp only at hSw); have m0 := cell_of_block hSw.1 0; have m1 := cell_of_block hSw.1 1; have m2 := cell_of_block hSw.1 2; have m3 := cell_of_block hSw.1 3; have e0 := cell_of_block hSw.2 0; have e1 := cell_of_block hSw.2 1; have e2 := cell_of_block hSw.2 2; have e3 := cell_of_block hSw.2 3; have e4 := cell_of_block hSw.2 4; go_simp); try with_reducible rfl
                try simp only [Act.put, List.setIfInBounds_toArray, List.set_cons_zero, List.set_cons_succ]
                refine wpAnyH_take (i := 9) (oi := { dst := some 61, op := Op.extract (Operand.tmp 52) 0, type := 53, pos := "law.go:184", after := #[{ on := 8, ground := Ground.data }], guard := none }) (v := ?_) rfl (by kernel_rfl) (by kernel_rfl) (by kernel_rfl) (fun _ _ _ h => h) (Or.inl ⟨by kernel_rfl, ?_⟩) hHeld ?_
                rotate_left
                · (intro w hSw; (try dsimp only at hSw); have m0 := cell_of_block hSw.1 0; have m1 := cell_of_block hSw.1 1; have m2 := cell_of_block hSw.1 2; have m3 := cell_of_block hSw.1 3; have e0 := cell_of_block hSw.2 0; have e1 := cell_of_block hSw.2 1; have e2 := cell_of_block hSw.2 2; have e3 := cell_of_block hSw.2 3; have e4 := cell_of_block hSw.2 4; go_simp); try with_reducible rfl
                try simp only [Act.put, List.setIfInBounds_toArray, List.set_cons_zero, List.set_cons_succ]
                refine wpAnyH_take (i := 10) (oi := { dst := some 62, op := Op.extract (Operand.tmp 52) 1, type := 40, pos := "law.go:184", after := #[{ on := 8, ground := Ground.data }, { on := 12, ground := Ground.gcOnly Departure.lateStores }], guard := none }) (v := ?_) rfl (by kernel_rfl) (by kernel_rfl) (by kernel_rfl) (fun _ _ _ h => h) (Or.inl ⟨by kernel_rfl, ?_⟩) hHeld ?_
                rotate_left
                · (intro w hSw; (try dsimp only at hSw); have m0 := cell_of_block hSw.1 0; have m1 := cell_of_block hSw.1 1; have m2 := cell_of_block hSw.1 2; have m3 := cell_of_block hSw.1 3; have e0 := cell_of_block hSw.2 0; have e1 := cell_of_block hSw.2 1; have e2 := cell_of_block hSw.2 2; have e3 := cell_of_block hSw.2 3; have e4 := cell_of_block hSw.2 4; go_simp); try with_reducible rfl
                try simp only [Act.put, List.setIfInBounds_toArray, List.set_cons_zero, List.set_cons_succ]
                refine wpAnyH_ready (rs := [11]) (by kernel_rfl) (by simp) (AllReadyH.cons (o := { dst := some 11, op := Op.alloc 53, type := 0, pos := "law.go:184", after := #[], guard := none }) rfl (fun K hK => ?_) AllReadyH.nil)
                have hOld := hide hHeld
                clear hHeld
                go_simp
                have hal := (Below.refl v3.heap.size v3).alloc (Nat.le_refl _) (.cells #[.int .i64 0, .int .i64 0] 53)
                have A4 := hide (heap_new v3 (.cells #[.int .i64 0, .int .i64 0] 53))
                have X4 := hide (X3.out.below hal)
                have M4 := hide ((hal.block _ (heap_lt M3.out)).trans M3.out)
                have T4 := hide ((hal.block _ (heap_lt T3.out)).trans T3.out)
                have BB4 := hide (BB3.out.trans (hal.mono X3.out.size))
                have HAB := hide (show B0 ≤ v3.heap.size from X3.out.size)
                clear hal
                generalize v3.alloc (.cells #[.int .i64 0, .int .i64 0] 53) = v4 at *
                generalize v3.heap.size = ab at *
                (try go_wp2_with fail)
                refine hK.out _ _ (⟨M4.out, T4.out⟩) (fun hHeld => ?_)
                clear hK K hOld
                try simp only [Act.put, List.setIfInBounds_toArray, List.set_cons_zero, List.set_cons_succ]
                refine wpAnyH_ready (rs := [12]) (by kernel_rfl) (by simp) (AllReadyH.cons (o := { dst := none, op := Op.store 53 (Operand.tmp 11) (Operand.tmp 61), type := 0, pos := "law.go:184", after := #[{ on := 11, ground := Ground.data }, { on := 9, ground := Ground.data }, { on := 7, ground := Ground.chain }, { on := 0, ground := Ground.phase }, { on := 1, ground := Ground.phase }, { on := 2, ground := Ground.phase }, { on := 3, ground := Ground.phase }, { on := 4, ground := Ground.phase }, { on := 5, ground := Ground.phase }, { on := 6, ground := Ground.phase }, { on := 7, ground := Ground.phase }, { on := 8, ground := Ground.phase }, { on := 9, ground := Ground.phase }, { on := 10, ground := Ground.textOnly Departure.lateStores }, { on := 11, ground := Ground.phase }], guard := none }) rfl (fun K hK => ?_) AllReadyH.nil)
                have hOld := hide hHeld
                clear hHeld
                refine rw_storeO 53 (.tmp 11) (.tmp 61) rfl ab rfl #[.int .i64 (k : Int), .int .i64 (j : Int)] rfl _ A4.out (by kernel_rfl) rfl (by simp [Value.oneCell']) ?_
                have KF := setRow_keeps (Ts := [53]) A4.out (by decide) (#[.int .i64 (k : Int), .int .i64 (j : Int)] : Array Value)
                have A5 := hide (setRow_same (cs := (#[.int .i64 (k : Int), .int .i64 (j : Int)] : Array Value)) A4.out)
                have X5 := hide (X4.out.keepsT KF (by decide) (by decide) (by decide) (by decide) (by decide) (by decide) (by decide) (by decide) (by decide) (by decide) (by decide))
                have M5 := hide (KF.cells M4.out (by decide))
                have T5 := hide (KF.cells T4.out (by decide))
                have BB5 := hide (setRow_below BB4.out HAB.out X4.out.size (#[.int .i64 (k : Int), .int .i64 (j : Int)] : Array Value))
                clear KF
                generalize v4.setRow ab (#[.int .i64 (k : Int), .int .i64 (j : Int)] : Array Value) = v5 at *
                refine hK.out _ _ (⟨M5.out, T5.out⟩) (fun hHeld => ?_)
                clear hK K hOld
                try simp only [Act.put, List.setIfInBounds_toArray, List.set_cons_zero, List.set_cons_succ]
                refine wpAnyH_take (i := 13) (oi := { dst := some 12, op := Op.assign (Operand.tmp 62), type := 40, pos := "law.go:184", after := #[{ on := 10, ground := Ground.data }, { on := 12, ground := Ground.chain }, { on := 0, ground := Ground.phase }, { on := 1, ground := Ground.phase }, { on := 2, ground := Ground.phase }, { on := 3, ground := Ground.phase }, { on := 4, ground := Ground.phase }, { on := 5, ground := Ground.phase }, { on := 6, ground := Ground.phase }, { on := 7, ground := Ground.phase }, { on := 8, ground := Ground.phase }, { on := 9, ground := Ground.phase }, { on := 10, ground := Ground.phase }, { on := 11, ground := Ground.phase }, { on := 12, ground := Ground.phase }], guard := none }) (v := ?_) rfl (by kernel_rfl) (by kernel_rfl) (by kernel_rfl) (fun _ _ _ h => h) (Or.inl ⟨by kernel_rfl, ?_⟩) hHeld ?_
                rotate_left
                · (intro w hSw; (try dsimp only at hSw); have m0 := cell_of_block hSw.1 0; have m1 := cell_of_block hSw.1 1; have m2 := cell_of_block hSw.1 2; have m3 := cell_of_block hSw.1 3; have e0 := cell_of_block hSw.2 0; have e1 := cell_of_block hSw.2 1; have e2 := cell_of_block hSw.2 2; have e3 := cell_of_block hSw.2 3; have e4 := cell_of_block hSw.2 4; go_simp); try with_reducible rfl
                try simp only [Act.put, List.setIfInBounds_toArray, List.set_cons_zero, List.set_cons_succ]
                refine wpAnyH_done (by kernel_rfl) ?_ _
                clear hHeld
                go_wp2_with fail
                go_meet
                exact ⟨ab, k, j, Y, rfl, rfl, HP.out, X5.out, A5.out, M5.out, T5.out, BB5.out⟩
              · have hOld := hide hHeld
                clear hHeld
                go_simp
                have hal := (Below.refl v2.heap.size v2).alloc (Nat.le_refl _) (.cells #[.int .i64 0, .int .i64 0] 53)
                have A3 := hide (heap_new v2 (.cells #[.int .i64 0, .int .i64 0] 53))
                have X3 := hide (X2.out.below hal)
                have M3 := hide ((hal.block _ (heap_lt M2.out)).trans M2.out)
                have T3 := hide ((hal.block _ (heap_lt T2.out)).trans T2.out)
                have BB3 := hide (BB2.out.trans (hal.mono X2.out.size))
                have HAB := hide (show B0 ≤ v2.heap.size from X2.out.size)
                clear hal
                generalize v2.alloc (.cells #[.int .i64 0, .int .i64 0] 53) = v3 at *
                generalize v2.heap.size = ab at *
                (try go_wp2_with fail)
                refine hK.out _ _ (⟨M3.out, T3.out⟩) (fun hHeld => ?_)
                clear hK K hOld
                try simp only [Act.put, List.setIfInBounds_toArray, List.set_cons_zero, List.set_cons_succ]
                refine wpAnyH_ready (rs := [7]) (by kernel_rfl) (by simp) (AllReadyH.cons (o := { dst := some 60, op := Op.call { callee := Callee.value (Operand.func 16), args := #[Operand.tmp 54, Operand.tmp 55, Operand.tmp 59], argTypes := #[26, 51, 9] }, type := 54, pos := "law.go:184", after := #[{ on := 1, ground := Ground.data }, { on := 2, ground := Ground.data }, { on := 6, ground := Ground.data }, { on := 6, ground := Ground.chain }], guard := none }) rfl (fun K hK => ?_) AllReadyH.nil)
                have hOld := hide hHeld
                clear hHeld
                go_simp
                refine (HPU.out _ X3.out).mono ?_
                rintro e v4 ⟨Y, k, j, rfl, hp, hs, hb⟩
                have HP := hide hp
                have X4 := hide hs
                have M4 := hide (hb.2.cells M3.out (by decide))
                have T4 := hide (hb.2.cells T3.out (by decide))
                have A4 := hide (hb.2.cells A3.out (by decide))
                have BB4 := hide (BB3.out.trans hb.1)
                clear hp hs hb
                (try go_wp2_with fail)
                refine hK.out _ _ (⟨M4.out, T4.out⟩) (fun hHeld => ?_)
                clear hK K hOld
                try simp only [Act.put, List.setIfInBounds_toArray, List.set_cons_zero, List.set_cons_succ]
                refine wpAnyH_take (i := 8) (oi := { dst := some 52, op := Op.move (Operand.tmp 60), type := 54, pos := "law.go:184", after := #[{ on := 7, ground := Ground.data }], guard := none }) (v := ?_) rfl (by kernel_rfl) (by kernel_rfl) (by kernel_rfl) (fun _ _ _ h => h) (Or.inl ⟨by kernel_rfl, ?_⟩) hHeld ?_
                rotate_left
                · (intro w hSw; (try dsimp only at hSw); have m0 := cell_of_block hSw.1 0; have m1 := cell_of_block hSw.1 1; have m2 := cell_of_block hSw.1 2; have m3 := cell_of_block hSw.1 3; have e0 := cell_of_block hSw.2 0; have e1 := cell_of_block hSw.2 1; have e2 := cell_of_block hSw.2 2; have e3 := cell_of_block hSw.2 3; have e4 := cell_of_block hSw.2 4; go_simp); try with_reducible rfl
                try simp only [Act.put, List.setIfInBounds_toArray, List.set_cons_zero, List.set_cons_succ]
                refine wpAnyH_take (i := 9) (oi := { dst := some 61, op := Op.extract (Operand.tmp 52) 0, type := 53, pos := "law.go:184", after := #[{ on := 8, ground := Ground.data }], guard := none }) (v := ?_) rfl (by kernel_rfl) (by kernel_rfl) (by kernel_rfl) (fun _ _ _ h => h) (Or.inl ⟨by kernel_rfl, ?_⟩) hHeld ?_
                rotate_left
                · (intro w hSw; (try dsimp only at hSw); have m0 := cell_of_block hSw.1 0; have m1 := cell_of_block hSw.1 1; have m2 := cell_of_block hSw.1 2; have m3 := cell_of_block hSw.1 3; have e0 := cell_of_block hSw.2 0; have e1 := cell_of_block hSw.2 1; have e2 := cell_of_block hSw.2 2; have e3 := cell_of_block hSw.2 3; have e4 := cell_of_block hSw.2 4; go_simp); try with_reducible rfl
                try simp only [Act.put, List.setIfInBounds_toArray, List.set_cons_zero, List.set_cons_succ]
                refine wpAnyH_take (i := 10) (oi := { dst := some 62, op := Op.extract (Operand.tmp 52) 1, type := 40, pos := "law.go:184", after := #[{ on := 8, ground := Ground.data }, { on := 12, ground := Ground.gcOnly Departure.lateStores }], guard := none }) (v := ?_) rfl (by kernel_rfl) (by kernel_rfl) (by kernel_rfl) (fun _ _ _ h => h) (Or.inl ⟨by kernel_rfl, ?_⟩) hHeld ?_
                rotate_left
                · (intro w hSw; (try dsimp only at hSw); have m0 := cell_of_block hSw.1 0; have m1 := cell_of_block hSw.1 1; have m2 := cell_of_block hSw.1 2; have m3 := cell_of_block hSw.1 3; have e0 := cell_of_block hSw.2 0; have e1 := cell_of_block hSw.2 1; have e2 := cell_of_block hSw.2 2; have e3 := cell_of_block hSw.2 3; have e4 := cell_of_block hSw.2 4; go_simp); try with_reducible rfl
                try simp only [Act.put, List.setIfInBounds_toArray, List.set_cons_zero, List.set_cons_succ]
                refine wpAnyH_ready (rs := [12]) (by kernel_rfl) (by simp) (AllReadyH.cons (o := { dst := none, op := Op.store 53 (Operand.tmp 11) (Operand.tmp 61), type := 0, pos := "law.go:184", after := #[{ on := 11, ground := Ground.data }, { on := 9, ground := Ground.data }, { on := 7, ground := Ground.chain }, { on := 0, ground := Ground.phase }, { on := 1, ground := Ground.phase }, { on := 2, ground := Ground.phase }, { on := 3, ground := Ground.phase }, { on := 4, ground := Ground.phase }, { on := 5, ground := Ground.phase }, { on := 6, ground := Ground.phase }, { on := 7, ground := Ground.phase }, { on := 8, ground := Ground.phase }, { on := 9, ground := Ground.phase }, { on := 10, ground := Ground.textOnly Departure.lateStores }, { on := 11, ground := Ground.phase }], guard := none }) rfl (fun K hK => ?_) AllReadyH.nil)
                have hOld := hide hHeld
                clear hHeld
                refine rw_storeO 53 (.tmp 11) (.tmp 61) rfl ab rfl #[.int .i64 (k : Int), .int .i64 (j : Int)] rfl _ A4.out (by kernel_rfl) rfl (by simp [Value.oneCell']) ?_
                have KF := setRow_keeps (Ts := [53]) A4.out (by decide) (#[.int .i64 (k : Int), .int .i64 (j : Int)] : Array Value)
                have A5 := hide (setRow_same (cs := (#[.int .i64 (k : Int), .int .i64 (j : Int)] : Array Value)) A4.out)
                have X5 := hide (X4.out.keepsT KF (by decide) (by decide) (by decide) (by decide) (by decide) (by decide) (by decide) (by decide) (by decide) (by decide) (by decide))
                have M5 := hide (KF.cells M4.out (by decide))
                have T5 := hide (KF.cells T4.out (by decide))
                have BB5 := hide (setRow_below BB4.out HAB.out X4.out.size (#[.int .i64 (k : Int), .int .i64 (j : Int)] : Array Value))
                clear KF
                generalize v4.setRow ab (#[.int .i64 (k : Int), .int .i64 (j : Int)] : Array Value) = v5 at *
                refine hK.out _ _ (⟨M5.out, T5.out⟩) (fun hHeld => ?_)
                clear hK K hOld
                try simp only [Act.put, List.setIfInBounds_toArray, List.set_cons_zero, List.set_cons_succ]
                refine wpAnyH_take (i := 13) (oi := { dst := some 12, op := Op.assign (Operand.tmp 62), type := 40, pos := "law.go:184", after := #[{ on := 10, ground := Ground.data }, { on := 12, ground := Ground.chain }, { on := 0, ground := Ground.phase }, { on := 1, ground := Ground.phase }, { on := 2, ground := Ground.phase }, { on := 3, ground := Ground.phase }, { on := 4, ground := Ground.phase }, { on := 5, ground := Ground.phase }, { on := 6, ground := Ground.phase }, { on := 7, ground := Ground.phase }, { on := 8, ground := Ground.phase }, { on := 9, ground := Ground.phase }, { on := 10, ground := Ground.phase }, { on := 11, ground := Ground.phase }, { on := 12, ground := Ground.phase }], guard := none }) (v := ?_) rfl (by kernel_rfl) (by kernel_rfl) (by kernel_rfl) (fun _ _ _ h => h) (Or.inl ⟨by kernel_rfl, ?_⟩) hHeld ?_
                rotate_left
                · (intro w hSw; (try dsimp only at hSw); have m0 := cell_of_block hSw.1 0; have m1 := cell_of_block hSw.1 1; have m2 := cell_of_block hSw.1 2; have m3 := cell_of_block hSw.1 3; have e0 := cell_of_block hSw.2 0; have e1 := cell_of_block hSw.2 1; have e2 := cell_of_block hSw.2 2; have e3 := cell_of_block hSw.2 3; have e4 := cell_of_block hSw.2 4; go_simp); try with_reducible rfl
                try simp only [Act.put, List.setIfInBounds_toArray, List.set_cons_zero, List.set_cons_succ]
                refine wpAnyH_done (by kernel_rfl) ?_ _
                clear hHeld
                go_wp2_with fail
                go_meet
                exact ⟨ab, k, j, Y, rfl, rfl, HP.out, X5.out, A5.out, M5.out, T5.out, BB5.out⟩
            · have hOld := hide hHeld
              clear hHeld
              go_simp
              have hal := (Below.refl v1.heap.size v1).alloc (Nat.le_refl _) (.cells #[.int .i64 0, .int .i64 0] 53)
              have A2 := hide (heap_new v1 (.cells #[.int .i64 0, .int .i64 0] 53))
              have X2 := hide (X1.out.below hal)
              have M2 := hide ((hal.block _ (heap_lt M1.out)).trans M1.out)
              have T2 := hide ((hal.block _ (heap_lt T1.out)).trans T1.out)
              have BB2 := hide (BB1.out.trans (hal.mono X1.out.size))
              have HAB := hide (show B0 ≤ v1.heap.size from X1.out.size)
              clear hal
              generalize v1.alloc (.cells #[.int .i64 0, .int .i64 0] 53) = v2 at *
              generalize v1.heap.size = ab at *
              (try go_wp2_with fail)
              refine hK.out _ _ (⟨M2.out, T2.out⟩) (fun hHeld => ?_)
              clear hK K hOld
              try simp only [Act.put, List.setIfInBounds_toArray, List.set_cons_zero, List.set_cons_succ]
              refine wpAnyH_ready (rs := [6]) (by kernel_rfl) (by simp) (AllReadyH.cons (o := { dst := some 59, op := Op.call { callee := Callee.value (Operand.func 9), args := #[Operand.tmp 58, Operand.const (Value.int IntKind.i64 32)], argTypes := #[9, 3] }, type := 9, pos := "law.go:184", after := #[{ on := 5, ground := Ground.data }], guard := none }) rfl (fun K hK => ?_) AllReadyH.nil)
              have hOld := hide hHeld
              clear hHeld
              go_simp
              refine (HFU.out _).mono ?_
              rintro e v3 ⟨rfl, hb⟩
              have X3 := hide (X2.out.below hb)
              have M3 := hide ((hb.block _ (heap_lt M2.out)).trans M2.out)
              have T3 := hide ((hb.block _ (heap_lt T2.out)).trans T2.out)
              have A3 := hide ((hb.block _ (heap_lt A2.out)).trans A2.out)
              have BB3 := hide (BB2.out.trans (hb.mono X2.out.size))
              clear hb
              (try go_wp2_with fail)
              refine hK.out _ _ (⟨M3.out, T3.out⟩) (fun hHeld => ?_)
              clear hK K hOld
              try simp only [Act.put, List.setIfInBounds_toArray, List.set_cons_zero, List.set_cons_succ]
              refine wpAnyH_ready (rs := [7]) (by kernel_rfl) (by simp) (AllReadyH.cons (o := { dst := some 60, op := Op.call { callee := Callee.value (Operand.func 16), args := #[Operand.tmp 54, Operand.tmp 55, Operand.tmp 59], argTypes := #[26, 51, 9] }, type := 54, pos := "law.go:184", after := #[{ on := 1, ground := Ground.data }, { on := 2, ground := Ground.data }, { on := 6, ground := Ground.data }, { on := 6, ground := Ground.chain }], guard := none }) rfl (fun K hK => ?_) AllReadyH.nil)
              have hOld := hide hHeld
              clear hHeld
              go_simp
              refine (HPU.out _ X3.out).mono ?_
              rintro e v4 ⟨Y, k, j, rfl, hp, hs, hb⟩
              have HP := hide hp
              have X4 := hide hs
              have M4 := hide (hb.2.cells M3.out (by decide))
              have T4 := hide (hb.2.cells T3.out (by decide))
              have A4 := hide (hb.2.cells A3.out (by decide))
              have BB4 := hide (BB3.out.trans hb.1)
              clear hp hs hb
              (try go_wp2_with fail)
              refine hK.out _ _ (⟨M4.out, T4.out⟩) (fun hHeld => ?_)
              clear hK K hOld
              try simp only [Act.put, List.setIfInBounds_toArray, List.set_cons_zero, List.set_cons_succ]
              refine wpAnyH_take (i := 8) (oi := { dst := some 52, op := Op.move (Operand.tmp 60), type := 54, pos := "law.go:184", after := #[{ on := 7, ground := Ground.data }], guard := none }) (v := ?_) rfl (by kernel_rfl) (by kernel_rfl) (by kernel_rfl) (fun _ _ _ h => h) (Or.inl ⟨by kernel_rfl, ?_⟩) hHeld ?_
              rotate_left
              · (intro w hSw; (try dsimp only at hSw); have m0 := cell_of_block hSw.1 0; have m1 := cell_of_block hSw.1 1; have m2 := cell_of_block hSw.1 2; have m3 := cell_of_block hSw.1 3; have e0 := cell_of_block hSw.2 0; have e1 := cell_of_block hSw.2 1; have e2 := cell_of_block hSw.2 2; have e3 := cell_of_block hSw.2 3; have e4 := cell_of_block hSw.2 4; go_simp); try with_reducible rfl
              try simp only [Act.put, List.setIfInBounds_toArray, List.set_cons_zero, List.set_cons_succ]
              refine wpAnyH_take (i := 9) (oi := { dst := some 61, op := Op.extract (Operand.tmp 52) 0, type := 53, pos := "law.go:184", after := #[{ on := 8, ground := Ground.data }], guard := none }) (v := ?_) rfl (by kernel_rfl) (by kernel_rfl) (by kernel_rfl) (fun _ _ _ h => h) (Or.inl ⟨by kernel_rfl, ?_⟩) hHeld ?_
              rotate_left
              · (intro w hSw; (try dsimp only at hSw); have m0 := cell_of_block hSw.1 0; have m1 := cell_of_block hSw.1 1; have m2 := cell_of_block hSw.1 2; have m3 := cell_of_block hSw.1 3; have e0 := cell_of_block hSw.2 0; have e1 := cell_of_block hSw.2 1; have e2 := cell_of_block hSw.2 2; have e3 := cell_of_block hSw.2 3; have e4 := cell_of_block hSw.2 4; go_simp); try with_reducible rfl
              try simp only [Act.put, List.setIfInBounds_toArray, List.set_cons_zero, List.set_cons_succ]
              refine wpAnyH_take (i := 10) (oi := { dst := some 62, op := Op.extract (Operand.tmp 52) 1, type := 40, pos := "law.go:184", after := #[{ on := 8, ground := Ground.data }, { on := 12, ground := Ground.gcOnly Departure.lateStores }], guard := none }) (v := ?_) rfl (by kernel_rfl) (by kernel_rfl) (by kernel_rfl) (fun _ _ _ h => h) (Or.inl ⟨by kernel_rfl, ?_⟩) hHeld ?_
              rotate_left
              · (intro w hSw; (try dsimp only at hSw); have m0 := cell_of_block hSw.1 0; have m1 := cell_of_block hSw.1 1; have m2 := cell_of_block hSw.1 2; have m3 := cell_of_block hSw.1 3; have e0 := cell_of_block hSw.2 0; have e1 := cell_of_block hSw.2 1; have e2 := cell_of_block hSw.2 2; have e3 := cell_of_block hSw.2 3; have e4 := cell_of_block hSw.2 4; go_simp); try with_reducible rfl
              try simp only [Act.put, List.setIfInBounds_toArray, List.set_cons_zero, List.set_cons_succ]
              refine wpAnyH_ready (rs := [12]) (by kernel_rfl) (by simp) (AllReadyH.cons (o := { dst := none, op := Op.store 53 (Operand.tmp 11) (Operand.tmp 61), type := 0, pos := "law.go:184", after := #[{ on := 11, ground := Ground.data }, { on := 9, ground := Ground.data }, { on := 7, ground := Ground.chain }, { on := 0, ground := Ground.phase }, { on := 1, ground := Ground.phase }, { on := 2, ground := Ground.phase }, { on := 3, ground := Ground.phase }, { on := 4, ground := Ground.phase }, { on := 5, ground := Ground.phase }, { on := 6, ground := Ground.phase }, { on := 7, ground := Ground.phase }, { on := 8, ground := Ground.phase }, { on := 9, ground := Ground.phase }, { on := 10, ground := Ground.textOnly Departure.lateStores }, { on := 11, ground := Ground.phase }], guard := none }) rfl (fun K hK => ?_) AllReadyH.nil)
              have hOld := hide hHeld
              clear hHeld
              refine rw_storeO 53 (.tmp 11) (.tmp 61) rfl ab rfl #[.int .i64 (k : Int), .int .i64 (j : Int)] rfl _ A4.out (by kernel_rfl) rfl (by simp [Value.oneCell']) ?_
              have KF := setRow_keeps (Ts := [53]) A4.out (by decide) (#[.int .i64 (k : Int), .int .i64 (j : Int)] : Array Value)
              have A5 := hide (setRow_same (cs := (#[.int .i64 (k : Int), .int .i64 (j : Int)] : Array Value)) A4.out)
              have X5 := hide (X4.out.keepsT KF (by decide) (by decide) (by decide) (by decide) (by decide) (by decide) (by decide) (by decide) (by decide) (by decide) (by decide))
              have M5 := hide (KF.cells M4.out (by decide))
              have T5 := hide (KF.cells T4.out (by decide))
              have BB5 := hide (setRow_below BB4.out HAB.out X4.out.size (#[.int .i64 (k : Int), .int .i64 (j : Int)] : Array Value))
              clear KF
              generalize v4.setRow ab (#[.int .i64 (k : Int), .int .i64 (j : Int)] : Array Value) = v5 at *
              refine hK.out _ _ (⟨M5.out, T5.out⟩) (fun hHeld => ?_)
              clear hK K hOld
              try simp only [Act.put, List.setIfInBounds_toArray, List.set_cons_zero, List.set_cons_succ]
              refine wpAnyH_take (i := 13) (oi := { dst := some 12, op := Op.assign (Operand.tmp 62), type := 40, pos := "law.go:184", after := #[{ on := 10, ground := Ground.data }, { on := 12, ground := Ground.chain }, { on := 0, ground := Ground.phase }, { on := 1, ground := Ground.phase }, { on := 2, ground := Ground.phase }, { on := 3, ground := Ground.phase }, { on := 4, ground := Ground.phase }, { on := 5, ground := Ground.phase }, { on := 6, ground := Ground.phase }, { on := 7, ground := Ground.phase }, { on := 8, ground := Ground.phase }, { on := 9, ground := Ground.phase }, { on := 10, ground := Ground.phase }, { on := 11, ground := Ground.phase }, { on := 12, ground := Ground.phase }], guard := none }) (v := ?_) rfl (by kernel_rfl) (by kernel_rfl) (by kernel_rfl) (fun _ _ _ h => h) (Or.inl ⟨by kernel_rfl, ?_⟩) hHeld ?_
              rotate_left
              · (intro w hSw; (try dsimp only at hSw); have m0 := cell_of_block hSw.1 0; have m1 := cell_of_block hSw.1 1; have m2 := cell_of_block hSw.1 2; have m3 := cell_of_block hSw.1 3; have e0 := cell_of_block hSw.2 0; have e1 := cell_of_block hSw.2 1; have e2 := cell_of_block hSw.2 2; have e3 := cell_of_block hSw.2 3; have e4 := cell_of_block hSw.2 4; go_simp); try with_reducible rfl
              try simp only [Act.put, List.setIfInBounds_toArray, List.set_cons_zero, List.set_cons_succ]
              refine wpAnyH_done (by kernel_rfl) ?_ _
              clear hHeld
              go_wp2_with fail
              go_meet
              exact ⟨ab, k, j, Y, rfl, rfl, HP.out, X5.out, A5.out, M5.out, T5.out, BB5.out⟩
          · have hOld := hide hHeld
            clear hHeld
            go_simp
            have hal := (Below.refl v1.heap.size v1).alloc (Nat.le_refl _) (.cells #[.int .i64 0, .int .i64 0] 53)
            have A2 := hide (heap_new v1 (.cells #[.int .i64 0, .int .i64 0] 53))
            have X2 := hide (X1.out.below hal)
            have M2 := hide ((hal.block _ (heap_lt M1.out)).trans M1.out)
            have T2 := hide ((hal.block _ (heap_lt T1.out)).trans T1.out)
            have N2 := hide ((hal.block _ (heap_lt N1.out)).trans N1.out)
            have BB2 := hide (BB1.out.trans (hal.mono X1.out.size))
            have HAB := hide (show B0 ≤ v1.heap.size from X1.out.size)
            clear hal
            generalize v1.alloc (.cells #[.int .i64 0, .int .i64 0] 53) = v2 at *
            generalize v1.heap.size = ab at *
            (try go_wp2_with fail)
            refine hK.out _ _ (⟨M2.out, T2.out⟩) (fun hHeld => ?_)
            clear hK K hOld
            try simp only [Act.put, List.setIfInBounds_toArray, List.set_cons_zero, List.set_cons_succ]
            refine wpAnyH_ready (rs := [5]) (by kernel_rfl) (by simp) (AllReadyH.cons (o := { dst := some 58, op := Op.convert 66 9 (Operand.tmp 57), type := 9, pos := "law.go:184", after := #[{ on := 4, ground := Ground.data }], guard := none }) rfl (fun K hK => ?_) AllReadyH.nil)
            have hOld := hide hHeld
            clear hHeld
            go_simp
            have hcv := byte_text v2 nb x HX8.out N2.out
            try simp only [hcv, Result.andThen]
            clear hcv
            (try go_wp2_with fail)
            refine hK.out _ _ (⟨M2.out, T2.out⟩) (fun hHeld => ?_)
            clear hK K hOld
            try simp only [Act.put, List.setIfInBounds_toArray, List.set_cons_zero, List.set_cons_succ]
            refine wpAnyH_ready (rs := [6]) (by kernel_rfl) (by simp) (AllReadyH.cons (o := { dst := some 59, op := Op.call { callee := Callee.value (Operand.func 9), args := #[Operand.tmp 58, Operand.const (Value.int IntKind.i64 32)], argTypes := #[9, 3] }, type := 9, pos := "law.go:184", after := #[{ on := 5, ground := Ground.data }], guard := none }) rfl (fun K hK => ?_) AllReadyH.nil)
            have hOld := hide hHeld
            clear hHeld
            go_simp
            refine (HFU.out _).mono ?_
            rintro e v3 ⟨rfl, hb⟩
            have X3 := hide (X2.out.below hb)
            have M3 := hide ((hb.block _ (heap_lt M2.out)).trans M2.out)
            have T3 := hide ((hb.block _ (heap_lt T2.out)).trans T2.out)
            have A3 := hide ((hb.block _ (heap_lt A2.out)).trans A2.out)
            have BB3 := hide (BB2.out.trans (hb.mono X2.out.size))
            clear hb
            (try go_wp2_with fail)
            refine hK.out _ _ (⟨M3.out, T3.out⟩) (fun hHeld => ?_)
            clear hK K hOld
            try simp only [Act.put, List.setIfInBounds_toArray, List.set_cons_zero, List.set_cons_succ]
            refine wpAnyH_ready (rs := [7]) (by kernel_rfl) (by simp) (AllReadyH.cons (o := { dst := some 60, op := Op.call { callee := Callee.value (Operand.func 16), args := #[Operand.tmp 54, Operand.tmp 55, Operand.tmp 59], argTypes := #[26, 51, 9] }, type := 54, pos := "law.go:184", after := #[{ on := 1, ground := Ground.data }, { on := 2, ground := Ground.data }, { on := 6, ground := Ground.data }, { on := 6, ground := Ground.chain }], guard := none }) rfl (fun K hK => ?_) AllReadyH.nil)
            have hOld := hide hHeld
            clear hHeld
            go_simp
            refine (HPU.out _ X3.out).mono ?_
            rintro e v4 ⟨Y, k, j, rfl, hp, hs, hb⟩
            have HP := hide hp
            have X4 := hide hs
            have M4 := hide (hb.2.cells M3.out (by decide))
            have T4 := hide (hb.2.cells T3.out (by decide))
            have A4 := hide (hb.2.cells A3.out (by decide))
            have BB4 := hide (BB3.out.trans hb.1)
            clear hp hs hb
            (try go_wp2_with fail)
            refine hK.out _ _ (⟨M4.out, T4.out⟩) (fun hHeld => ?_)
            clear hK K hOld
            try simp only [Act.put, List.setIfInBounds_toArray, List.set_cons_zero, List.set_cons_succ]
            refine wpAnyH_take (i := 8) (oi := { dst := some 52, op := Op.move (Operand.tmp 60), type := 54, pos := "law.go:184", after := #[{ on := 7, ground := Ground.data }], guard := none }) (v := ?_) rfl (by kernel_rfl) (by kernel_rfl) (by kernel_rfl) (fun _ _ _ h => h) (Or.inl ⟨by kernel_rfl, ?_⟩) hHeld ?_
            rotate_left
            · (intro w hSw; (try dsimp only at hSw); have m0 := cell_of_block hSw.1 0; have m1 := cell_of_block hSw.1 1; have m2 := cell_of_block hSw.1 2; have m3 := cell_of_block hSw.1 3; have e0 := cell_of_block hSw.2 0; have e1 := cell_of_block hSw.2 1; have e2 := cell_of_block hSw.2 2; have e3 := cell_of_block hSw.2 3; have e4 := cell_of_block hSw.2 4; go_simp); try with_reducible rfl
            try simp only [Act.put, List.setIfInBounds_toArray, List.set_cons_zero, List.set_cons_succ]
            refine wpAnyH_take (i := 9) (oi := { dst := some 61, op := Op.extract (Operand.tmp 52) 0, type := 53, pos := "law.go:184", after := #[{ on := 8, ground := Ground.data }], guard := none }) (v := ?_) rfl (by kernel_rfl) (by kernel_rfl) (by kernel_rfl) (fun _ _ _ h => h) (Or.inl ⟨by kernel_rfl, ?_⟩) hHeld ?_
            rotate_left
            · (intro w hSw; (try dsimp only at hSw); have m0 := cell_of_block hSw.1 0; have m1 := cell_of_block hSw.1 1; have m2 := cell_of_block hSw.1 2; have m3 := cell_of_block hSw.1 3; have e0 := cell_of_block hSw.2 0; have e1 := cell_of_block hSw.2 1; have e2 := cell_of_block hSw.2 2; have e3 := cell_of_block hSw.2 3; have e4 := cell_of_block hSw.2 4; go_simp); try with_reducible rfl
            try simp only [Act.put, List.setIfInBounds_toArray, List.set_cons_zero, List.set_cons_succ]
            refine wpAnyH_take (i := 10) (oi := { dst := some 62, op := Op.extract (Operand.tmp 52) 1, type := 40, pos := "law.go:184", after := #[{ on := 8, ground := Ground.data }, { on := 12, ground := Ground.gcOnly Departure.lateStores }], guard := none }) (v := ?_) rfl (by kernel_rfl) (by kernel_rfl) (by kernel_rfl) (fun _ _ _ h => h) (Or.inl ⟨by kernel_rfl, ?_⟩) hHeld ?_
            rotate_left
            · (intro w hSw; (try dsimp only at hSw); have m0 := cell_of_block hSw.1 0; have m1 := cell_of_block hSw.1 1; have m2 := cell_of_block hSw.1 2; have m3 := cell_of_block hSw.1 3; have e0 := cell_of_block hSw.2 0; have e1 := cell_of_block hSw.2 1; have e2 := cell_of_block hSw.2 2; have e3 := cell_of_block hSw.2 3; have e4 := cell_of_block hSw.2 4; go_simp); try with_reducible rfl
            try simp only [Act.put, List.setIfInBounds_toArray, List.set_cons_zero, List.set_cons_succ]
            refine wpAnyH_ready (rs := [12]) (by kernel_rfl) (by simp) (AllReadyH.cons (o := { dst := none, op := Op.store 53 (Operand.tmp 11) (Operand.tmp 61), type := 0, pos := "law.go:184", after := #[{ on := 11, ground := Ground.data }, { on := 9, ground := Ground.data }, { on := 7, ground := Ground.chain }, { on := 0, ground := Ground.phase }, { on := 1, ground := Ground.phase }, { on := 2, ground := Ground.phase }, { on := 3, ground := Ground.phase }, { on := 4, ground := Ground.phase }, { on := 5, ground := Ground.phase }, { on := 6, ground := Ground.phase }, { on := 7, ground := Ground.phase }, { on := 8, ground := Ground.phase }, { on := 9, ground := Ground.phase }, { on := 10, ground := Ground.textOnly Departure.lateStores }, { on := 11, ground := Ground.phase }], guard := none }) rfl (fun K hK => ?_) AllReadyH.nil)
            have hOld := hide hHeld
            clear hHeld
            refine rw_storeO 53 (.tmp 11) (.tmp 61) rfl ab rfl #[.int .i64 (k : Int), .int .i64 (j : Int)] rfl _ A4.out (by kernel_rfl) rfl (by simp [Value.oneCell']) ?_
            have KF := setRow_keeps (Ts := [53]) A4.out (by decide) (#[.int .i64 (k : Int), .int .i64 (j : Int)] : Array Value)
            have A5 := hide (setRow_same (cs := (#[.int .i64 (k : Int), .int .i64 (j : Int)] : Array Value)) A4.out)
            have X5 := hide (X4.out.keepsT KF (by decide) (by decide) (by decide) (by decide) (by decide) (by decide) (by decide) (by decide) (by decide) (by decide) (by decide))
            have M5 := hide (KF.cells M4.out (by decide))
            have T5 := hide (KF.cells T4.out (by decide))
            have BB5 := hide (setRow_below BB4.out HAB.out X4.out.size (#[.int .i64 (k : Int), .int .i64 (j : Int)] : Array Value))
            clear KF
            generalize v4.setRow ab (#[.int .i64 (k : Int), .int .i64 (j : Int)] : Array Value) = v5 at *
            refine hK.out _ _ (⟨M5.out, T5.out⟩) (fun hHeld => ?_)
            clear hK K hOld
            try simp only [Act.put, List.setIfInBounds_toArray, List.set_cons_zero, List.set_cons_succ]
            refine wpAnyH_take (i := 13) (oi := { dst := some 12, op := Op.assign (Operand.tmp 62), type := 40, pos := "law.go:184", after := #[{ on := 10, ground := Ground.data }, { on := 12, ground := Ground.chain }, { on := 0, ground := Ground.phase }, { on := 1, ground := Ground.phase }, { on := 2, ground := Ground.phase }, { on := 3, ground := Ground.phase }, { on := 4, ground := Ground.phase }, { on := 5, ground := Ground.phase }, { on := 6, ground := Ground.phase }, { on := 7, ground := Ground.phase }, { on := 8, ground := Ground.phase }, { on := 9, ground := Ground.phase }, { on := 10, ground := Ground.phase }, { on := 11, ground := Ground.phase }, { on := 12, ground := Ground.phase }], guard := none }) (v := ?_) rfl (by kernel_rfl) (by kernel_rfl) (by kernel_rfl) (fun _ _ _ h => h) (Or.inl ⟨by kernel_rfl, ?_⟩) hHeld ?_
            rotate_left
            · (intro w hSw; (try dsimp only at hSw); have m0 := cell_of_block hSw.1 0; have m1 := cell_of_block hSw.1 1; have m2 := cell_of_block hSw.1 2; have m3 := cell_of_block hSw.1 3; have e0 := cell_of_block hSw.2 0; have e1 := cell_of_block hSw.2 1; have e2 := cell_of_block hSw.2 2; have e3 := cell_of_block hSw.2 3; have e4 := cell_of_block hSw.2 4; go_simp); try with_reducible rfl
            try simp only [Act.put, List.setIfInBounds_toArray, List.set_cons_zero, List.set_cons_succ]
            refine wpAnyH_done (by kernel_rfl) ?_ _
            clear hHeld
            go_wp2_with fail
            go_meet
            exact ⟨ab, k, j, Y, rfl, rfl, HP.out, X5.out, A5.out, M5.out, T5.out, BB5.out⟩
        · have hOld := hide hHeld
          clear hHeld
          go_simp
          have hal := (Below.refl v0.heap.size v0).alloc (Nat.le_refl _) (.cells #[.int .i64 0, .int .i64 0] 53)
          have A1 := hide (heap_new v0 (.cells #[.int .i64 0, .int .i64 0] 53))
          have X1 := hide (X0.out.below hal)
          have M1 := hide ((hal.block _ (heap_lt M0.out)).trans M0.out)
          have T1 := hide ((hal.block _ (heap_lt T0.out)).trans T0.out)
          have BB1 := hide (BB0.out.trans (hal.mono X0.out.size))
          have HAB := hide (show B0 ≤ v0.heap.size from X0.out.size)
          clear hal
          generalize v0.alloc (.cells #[.int .i64 0, .int .i64 0] 53) = v1 at *
          generalize v0.heap.size = ab at *
          (try go_wp2_with fail)
          refine hK.out _ _ (⟨M1.out, T1.out⟩) (fun hHeld => ?_)
          clear hK K hOld
          try simp only [Act.put, List.setIfInBounds_toArray, List.set_cons_zero, List.set_cons_succ]
          refine wpAnyH_ready (rs := [4]) (by kernel_rfl) (by simp) (AllReadyH.cons (o := { dst := some 57, op := Op.buildSlice 66 1 #[(0, Operand.tmp 56)], type := 66, pos := "law.go:184", after := #[{ on := 3, ground := Ground.data }], guard := none }) rfl (fun K hK => ?_) AllReadyH.nil)
          have hOld := hide hHeld
          clear hHeld
          go_simp
          obtain ⟨ob, hob⟩ : ∃ ob, ob = Obj.cells #[.int .u8 (x : Int)] 5 := ⟨_, rfl⟩
          try rw [← hob]
          have hal := (Below.refl v1.heap.size v1).alloc (Nat.le_refl _) ob
          have X2 := hide (X1.out.below hal)
          have M2 := hide ((hal.block _ (heap_lt M1.out)).trans M1.out)
          have T2 := hide ((hal.block _ (heap_lt T1.out)).trans T1.out)
          have A2 := hide ((hal.block _ (heap_lt A1.out)).trans A1.out)
          have BB2 := hide (BB1.out.trans (hal.mono X1.out.size))
          have hnb := heap_new v1 ob
          clear hal
          generalize v1.alloc ob = v2 at *
          generalize v1.heap.size = nb at *
          rw [hob] at hnb
          have N2 := hide hnb
          clear hob hnb
          (try go_wp2_with fail)
          refine hK.out _ _ (⟨M2.out, T2.out⟩) (fun hHeld => ?_)
          clear hK K hOld
          try simp only [Act.put, List.setIfInBounds_toArray, List.set_cons_zero, List.set_cons_succ]
          refine wpAnyH_ready (rs := [5]) (by kernel_rfl) (by simp) (AllReadyH.cons (o := { dst := some 58, op := Op.convert 66 9 (Operand.tmp 57), type := 9, pos := "law.go:184", after := #[{ on := 4, ground := Ground.data }], guard := none }) rfl (fun K hK => ?_) AllReadyH.nil)
          have hOld := hide hHeld
          clear hHeld
          go_simp
          have hcv := byte_text v2 nb x HX8.out N2.out
          try simp only [hcv, Result.andThen]
          clear hcv
          (try go_wp2_with fail)
          refine hK.out _ _ (⟨M2.out, T2.out⟩) (fun hHeld => ?_)
          clear hK K hOld
          try simp only [Act.put, List.setIfInBounds_toArray, List.set_cons_zero, List.set_cons_succ]
          refine wpAnyH_ready (rs := [6]) (by kernel_rfl) (by simp) (AllReadyH.cons (o := { dst := some 59, op := Op.call { callee := Callee.value (Operand.func 9), args := #[Operand.tmp 58, Operand.const (Value.int IntKind.i64 32)], argTypes := #[9, 3] }, type := 9, pos := "law.go:184", after := #[{ on := 5, ground := Ground.data }], guard := none }) rfl (fun K hK => ?_) AllReadyH.nil)
          have hOld := hide hHeld
          clear hHeld
          go_simp
          refine (HFU.out _).mono ?_
          rintro e v3 ⟨rfl, hb⟩
          have X3 := hide (X2.out.below hb)
          have M3 := hide ((hb.block _ (heap_lt M2.out)).trans M2.out)
          have T3 := hide ((hb.block _ (heap_lt T2.out)).trans T2.out)
          have A3 := hide ((hb.block _ (heap_lt A2.out)).trans A2.out)
          have BB3 := hide (BB2.out.trans (hb.mono X2.out.size))
          clear hb
          (try go_wp2_with fail)
          refine hK.out _ _ (⟨M3.out, T3.out⟩) (fun hHeld => ?_)
          clear hK K hOld
          try simp only [Act.put, List.setIfInBounds_toArray, List.set_cons_zero, List.set_cons_succ]
          refine wpAnyH_ready (rs := [7]) (by kernel_rfl) (by simp) (AllReadyH.cons (o := { dst := some 60, op := Op.call { callee := Callee.value (Operand.func 16), args := #[Operand.tmp 54, Operand.tmp 55, Operand.tmp 59], argTypes := #[26, 51, 9] }, type := 54, pos := "law.go:184", after := #[{ on := 1, ground := Ground.data }, { on := 2, ground := Ground.data }, { on := 6, ground := Ground.data }, { on := 6, ground := Ground.chain }], guard := none }) rfl (fun K hK => ?_) AllReadyH.nil)
          have hOld := hide hHeld
          clear hHeld
          go_simp
          refine (HPU.out _ X3.out).mono ?_
          rintro e v4 ⟨Y, k, j, rfl, hp, hs, hb⟩
          have HP := hide hp
          have X4 := hide hs
          have M4 := hide (hb.2.cells M3.out (by decide))
          have T4 := hide (hb.2.cells T3.out (by decide))
          have A4 := hide (hb.2.cells A3.out (by decide))
          have BB4 := hide (BB3.out.trans hb.1)
          clear hp hs hb
          (try go_wp2_with fail)
          refine hK.out _ _ (⟨M4.out, T4.out⟩) (fun hHeld => ?_)
          clear hK K hOld
          try simp only [Act.put, List.setIfInBounds_toArray, List.set_cons_zero, List.set_cons_succ]
          refine wpAnyH_take (i := 8) (oi := { dst := some 52, op := Op.move (Operand.tmp 60), type := 54, pos := "law.go:184", after := #[{ on := 7, ground := Ground.data }], guard := none }) (v := ?_) rfl (by kernel_rfl) (by kernel_rfl) (by kernel_rfl) (fun _ _ _ h => h) (Or.inl ⟨by kernel_rfl, ?_⟩) hHeld ?_
          rotate_left
          · (intro w hSw; (try dsimp only at hSw); have m0 := cell_of_block hSw.1 0; have m1 := cell_of_block hSw.1 1; have m2 := cell_of_block hSw.1 2; have m3 := cell_of_block hSw.1 3; have e0 := cell_of_block hSw.2 0; have e1 := cell_of_block hSw.2 1; have e2 := cell_of_block hSw.2 2; have e3 := cell_of_block hSw.2 3; have e4 := cell_of_block hSw.2 4; go_simp); try with_reducible rfl
          try simp only [Act.put, List.setIfInBounds_toArray, List.set_cons_zero, List.set_cons_succ]
          refine wpAnyH_take (i := 9) (oi := { dst := some 61, op := Op.extract (Operand.tmp 52) 0, type := 53, pos := "law.go:184", after := #[{ on := 8, ground := Ground.data }], guard := none }) (v := ?_) rfl (by kernel_rfl) (by kernel_rfl) (by kernel_rfl) (fun _ _ _ h => h) (Or.inl ⟨by kernel_rfl, ?_⟩) hHeld ?_
          rotate_left
          · (intro w hSw; (try dsimp only at hSw); have m0 := cell_of_block hSw.1 0; have m1 := cell_of_block hSw.1 1; have m2 := cell_of_block hSw.1 2; have m3 := cell_of_block hSw.1 3; have e0 := cell_of_block hSw.2 0; have e1 := cell_of_block hSw.2 1; have e2 := cell_of_block hSw.2 2; have e3 := cell_of_block hSw.2 3; have e4 := cell_of_block hSw.2 4; go_simp); try with_reducible rfl
          try simp only [Act.put, List.setIfInBounds_toArray, List.set_cons_zero, List.set_cons_succ]
          refine wpAnyH_take (i := 10) (oi := { dst := some 62, op := Op.extract (Operand.tmp 52) 1, type := 40, pos := "law.go:184", after := #[{ on := 8, ground := Ground.data }, { on := 12, ground := Ground.gcOnly Departure.lateStores }], guard := none }) (v := ?_) rfl (by kernel_rfl) (by kernel_rfl) (by kernel_rfl) (fun _ _ _ h => h) (Or.inl ⟨by kernel_rfl, ?_⟩) hHeld ?_
          rotate_left
          · (intro w hSw; (try dsimp only at hSw); have m0 := cell_of_block hSw.1 0; have m1 := cell_of_block hSw.1 1; have m2 := cell_of_block hSw.1 2; have m3 := cell_of_block hSw.1 3; have e0 := cell_of_block hSw.2 0; have e1 := cell_of_block hSw.2 1; have e2 := cell_of_block hSw.2 2; have e3 := cell_of_block hSw.2 3; have e4 := cell_of_block hSw.2 4; go_simp); try with_reducible rfl
          try simp only [Act.put, List.setIfInBounds_toArray, List.set_cons_zero, List.set_cons_succ]
          refine wpAnyH_ready (rs := [12]) (by kernel_rfl) (by simp) (AllReadyH.cons (o := { dst := none, op := Op.store 53 (Operand.tmp 11) (Operand.tmp 61), type := 0, pos := "law.go:184", after := #[{ on := 11, ground := Ground.data }, { on := 9, ground := Ground.data }, { on := 7, ground := Ground.chain }, { on := 0, ground := Ground.phase }, { on := 1, ground := Ground.phase }, { on := 2, ground := Ground.phase }, { on := 3, ground := Ground.phase }, { on := 4, ground := Ground.phase }, { on := 5, ground := Ground.phase }, { on := 6, ground := Ground.phase }, { on := 7, ground := Ground.phase }, { on := 8, ground := Ground.phase }, { on := 9, ground := Ground.phase }, { on := 10, ground := Ground.textOnly Departure.lateStores }, { on := 11, ground := Ground.phase }], guard := none }) rfl (fun K hK => ?_) AllReadyH.nil)
          have hOld := hide hHeld
          clear hHeld
          refine rw_storeO 53 (.tmp 11) (.tmp 61) rfl ab rfl #[.int .i64 (k : Int), .int .i64 (j : Int)] rfl _ A4.out (by kernel_rfl) rfl (by simp [Value.oneCell']) ?_
          have KF := setRow_keeps (Ts := [53]) A4.out (by decide) (#[.int .i64 (k : Int), .int .i64 (j : Int)] : Array Value)
          have A5 := hide (setRow_same (cs := (#[.int .i64 (k : Int), .int .i64 (j : Int)] : Array Value)) A4.out)
          have X5 := hide (X4.out.keepsT KF (by decide) (by decide) (by decide) (by decide) (by decide) (by decide) (by decide) (by decide) (by decide) (by decide) (by decide))
          have M5 := hide (KF.cells M4.out (by decide))
          have T5 := hide (KF.cells T4.out (by decide))
          have BB5 := hide (setRow_below BB4.out HAB.out X4.out.size (#[.int .i64 (k : Int), .int .i64 (j : Int)] : Array Value))
          clear KF
          generalize v4.setRow ab (#[.int .i64 (k : Int), .int .i64 (j : Int)] : Array Value) = v5 at *
          refine hK.out _ _ (⟨M5.out, T5.out⟩) (fun hHeld => ?_)
          clear hK K hOld
          try simp only [Act.put, List.setIfInBounds_toArray, List.set_cons_zero, List.set_cons_succ]
          refine wpAnyH_take (i := 13) (oi := { dst := some 12, op := Op.assign (Operand.tmp 62), type := 40, pos := "law.go:184", after := #[{ on := 10, ground := Ground.data }, { on := 12, ground := Ground.chain }, { on := 0, ground := Ground.phase }, { on := 1, ground := Ground.phase }, { on := 2, ground := Ground.phase }, { on := 3, ground := Ground.phase }, { on := 4, ground := Ground.phase }, { on := 5, ground := Ground.phase }, { on := 6, ground := Ground.phase }, { on := 7, ground := Ground.phase }, { on := 8, ground := Ground.phase }, { on := 9, ground := Ground.phase }, { on := 10, ground := Ground.phase }, { on := 11, ground := Ground.phase }, { on := 12, ground := Ground.phase }], guard := none }) (v := ?_) rfl (by kernel_rfl) (by kernel_rfl) (by kernel_rfl) (fun _ _ _ h => h) (Or.inl ⟨by kernel_rfl, ?_⟩) hHeld ?_
          rotate_left
          · (intro w hSw; (try dsimp only at hSw); have m0 := cell_of_block hSw.1 0; have m1 := cell_of_block hSw.1 1; have m2 := cell_of_block hSw.1 2; have m3 := cell_of_block hSw.1 3; have e0 := cell_of_block hSw.2 0; have e1 := cell_of_block hSw.2 1; have e2 := cell_of_block hSw.2 2; have e3 := cell_of_block hSw.2 3; have e4 := cell_of_block hSw.2 4; go_simp); try with_reducible rfl
          try simp only [Act.put, List.setIfInBounds_toArray, List.set_cons_zero, List.set_cons_succ]
          refine wpAnyH_done (by kernel_rfl) ?_ _
          clear hHeld
          go_wp2_with fail
          go_meet
          exact ⟨ab, k, j, Y, rfl, rfl, HP.out, X5.out, A5.out, M5.out, T5.out, BB5.out⟩
      case rest =>
      obtain ⟨ab, k, j, Y, rfl, rfl, hp, hy, ha, hm, ht, hb⟩ := hcut
      have X6 := hide hy
      have A6 := hide ha
      have M6 := hide hm
      have T6 := hide ht
      have B6 := hide hb
      have P6 := hide hp
      clear hy ha hm ht hb hp X0 M0 T0 BB0 HPU HFU
      have hll : l < Y.M.length := by rw [P6.out.same.1, L4.out]; exact HL6.out
      have HWP := hide (fun W (hW : MvAt W B0 A 8 4 Y) => wput16 (X := Y) (by decide) (by decide) l k j ⟨1, lz, (i : Int) + 1, 0, 1⟩ td hll P6.out.kj.1 P6.out.kj.2.2 (fun i hi => absurd (by rw [← P6.out.same.1]; exact hi) (P6.out.fresh i)) W hW)
      rw [HLZ.out] at HWP
      have HOKY := hide (P6.out.mapped l (by rw [← P6.out.same.1]; exact hll))
      have HCY := hide (P6.out.cap V4.out)
      have HLY := hide (show (mapX Y l k j ⟨1, lz, (i : Int) + 1, 0, 1⟩ td).M.length = 6 from by
        show (Y.M.set l _).length = 6
        rw [List.length_set, P6.out.same.1, L4.out])
      clear hll
      have m3 := cell_of_block M6.out 3
      have e1 := cell_of_block T6.out 1
      have c0 := cell_of_block A6.out 0
      have c1 := cell_of_block A6.out 1
      go_wp2_with fail
      refine (HWP.out _ X6.out).mono ?_
      rintro e w7 ⟨rfl, hm, hb⟩
      have M7 := hide (hb.keep M6.out (by decide))
      have X7 := hide hm
      have B7 := hide (B6.out.trans hb.1)
      clear hb hm X6 B6 M6 m3 e1 c0 c1 HWP
      have hI12 : (i : Int) < 12 := by have := HM12.out; have := HLT.out; omega
      go_wp2_with fail
      go_roundw
      case rel => exact ⟨i + 1, _, HLT.out, by go_num, HOKY.out.mono (by omega), by have h1 := HCY.out; have h2 := C4.out; show capX 4 Y + ((i + 1 : Nat) : Int) = 24; omega, HLY.out, X7.out, M7.out, B7.out⟩
      case measure => have := HLT.out; simp [intOf]; omega
    · obtain rfl : i = m := by omega
      clear him hge hjF hjI hjc HEL HWF HMZ
      obtain ⟨c, hc, hc8⟩ := mod_nat bk HBK.out.1 8 (by decide)
      rw [show ((8 : Nat) : Int) = 8 from rfl] at hc
      have HC8 := hide hc8
      have hwb : wrap64 bk = bk := wrap_sm _ (by have := HBK.out; omega)
      clear hc8
      have V5 := hide (V4.out.mono (N' := 36) (by have := HM12.out; omega))
      have HCL := hide (fun W (hW : MvAt W B0 A 8 4 V) => clear16 V5.out (by decide) (by decide) (by decide) (by decide) (by decide) c HC8.out (by
        have h1 := cap_shut V5.out (by decide) c
        have h2 := live_le V.M (c : Int)
        have h3 := total_le V.M
        have h4 := C4.out
        have h5 := L4.out
        have h6 := HM12.out
        omega) W hW)
      unfold Clear16 at HCL
      obtain ⟨cz, hcz⟩ : ∃ z : Int, (c : Int) = z := ⟨_, rfl⟩
      have HCZ := hide hcz
      rw [hcz] at HCL hc
      clear hcz
      go_wp2_with (refine rw_load rfl 29 (.tmp 6) rfl mb rfl 29 #[.pointer (some ⟨A.d, 0, none⟩), .pointer (some ⟨A.pp, 0, none⟩), .pointer (some ⟨A.sb, 0, none⟩), .pointer (some ⟨A.mp, 0, none⟩)] (0, 0) _ Mr.out Tryz.underlying29 rfl (by kernel_rfl) ?_)
      refine (HCL.out _ Xr.out).mono ?_
      rintro e w6 ⟨Z, rfl, hv, hc2, hm, hb⟩
      have M6 := hide (hb.keep Mr.out (by decide))
      have X6 := hide hm
      have B6 := hide (Br.out.trans hb.1)
      have HZ := hide (And.intro hv hc2)
      clear hv hc2
      clear hb hm Xr Br Mr
      have HLV := hide (fun W (hW : MvAt W B0 A 8 4 Z) => live_yes hW.mp c HC8.out)
      rw [(clr_all HZ.out.2 HZ.out.1).1, HCZ.out, show ((0 : Nat) : Int) = 0 from rfl] at HLV
      have HML := hide (show Z.M.length = 6 from by rw [HZ.out.2.len, (shut_same (X := V) c).1]; exact L4.out)
      have HCO := hide (fun W (hW : MvAt W B0 A 8 4 Z) => count_any A.p A.q A.B A.G Z.S W hW.st.drive.chip)
      have HAT := hide (fun (k : Nat) (hk : k < 6) W (hW : MvAt W B0 A 8 4 Z) => at16 k (by rw [HML.out]; exact hk) hW.mp)
      have HC2 := hide (fun W (hW : MvAt W B0 A 8 4 Z) => clear16 HZ.out.1 (by decide) (by decide) (by decide) (by decide) (by decide) c HC8.out (by
        rw [(clr_all HZ.out.2 HZ.out.1).1, show shutX Z c = Z from if_neg HZ.out.2.opn]
        have h1 := HZ.out.1.room
        unfold capX
        have : (0 : Int) ≤ (freeN Z.L : Int) := by omega
        omega) W hW)
      unfold Clear16 at HC2
      have HID := hide (show ∀ Z' : MvS, Clr 4 c 4 (shutX Z c) Z' → Z' = Z from fun Z' h => by
        have e : shutX Z c = Z := if_neg HZ.out.2.opn
        rw [e] at h
        exact h.idle (clr_all HZ.out.2 HZ.out.1).2)
      rw [HCZ.out] at HC2
      obtain ⟨pz, hpz⟩ : ∃ z, Z.S.progs = z := ⟨_, rfl⟩
      obtain ⟨ez, hez⟩ : ∃ z, Z.S.eras = z := ⟨_, rfl⟩
      rw [hpz, hez] at HCO
      clear hpz hez HCL V4 V5 C4 L4
      clear hwb hc
      have m3 := cell_of_block M6.out 3
      go_wp2_with fail
      refine (HLV.out _ X6.out).mono ?_
      rintro e w7 ⟨rfl, rfl⟩
      clear m3 HLV
      go_wp2_with fail
      refine (HCO.out _ X6.out).mono ?_
      rintro e w8 ⟨rfl, hb⟩
      have M8 := hide ((hb.block _ (heap_lt M6.out)).trans M6.out)
      have X8 := hide (X6.out.below hb)
      have B8 := hide (B6.out.trans (hb.mono X6.out.size))
      clear hb X6 B6 M6
      go_upto_region 17 with (fail)
      have hal := (Below.refl w8.heap.size w8).alloc (Nat.le_refl _) (.cells #[.int .i64 0, .int .i64 0, .int .i64 0, .int .i64 0, .int .i64 0, .int .i64 0, .int .i64 0, .int .i64 0, .int .i64 0, .int .i64 0, .int .i64 0, .int .i64 0] 80)
      have A9 := hide (heap_new w8 (.cells #[.int .i64 0, .int .i64 0, .int .i64 0, .int .i64 0, .int .i64 0, .int .i64 0, .int .i64 0, .int .i64 0, .int .i64 0, .int .i64 0, .int .i64 0, .int .i64 0] 80))
      have X9 := hide (X8.out.below hal)
      have M9 := hide ((hal.block _ (heap_lt M8.out)).trans M8.out)
      have B9 := hide (B8.out.trans (hal.mono X8.out.size))
      have HAB := hide X8.out.size
      have HAM := hide (show w8.heap.size ≠ mb from by have := heap_lt M8.out; omega)
      clear hal X8 M8 B8
      generalize w8.alloc (.cells #[.int .i64 0, .int .i64 0, .int .i64 0, .int .i64 0, .int .i64 0, .int .i64 0, .int .i64 0, .int .i64 0, .int .i64 0, .int .i64 0, .int .i64 0, .int .i64 0] 80) = w9 at *
      generalize w8.heap.size = ar at *
      go_wp2_with fail
      go_loopw [94] (fun s W => ∃ k : Nat, k ≤ 6 ∧ s = .int .i64 (k : Int) ∧ W.heap[ar]? = some (.cells (flat2 (arrL Z.M 6 k)).toArray 80 (0, 0)) ∧ MvAt W B0 A 8 4 Z ∧ W.heap[mb]? = some (.cells #[.pointer (some ⟨A.d, 0, none⟩), .pointer (some ⟨A.pp, 0, none⟩), .pointer (some ⟨A.sb, 0, none⟩), .pointer (some ⟨A.mp, 0, none⟩)] 29 (0, 0)) ∧ Below B0 w W) (fun s _ => 6 - (intOf s).toNat)
      case atStart => exact ⟨0, by omega, rfl, by rw [arr_zero]; exact A9.out, X9.out, M9.out, B9.out⟩
      case round =>
        obtain ⟨k, hk, rfl, ha, hx, hm, hb⟩ := hrel
        have Ar := hide ha
        have Xr := hide hx
        have Mr := hide hm
        have Br := hide hb
        clear ha hx hm hb A9 X9 M9 B9
        rcases Nat.lt_or_ge k 6 with h6 | h6
        · have hkI : (k : Int) < 6 := by omega
          have HATk := hide (HAT.out k h6)
          have HNX := hide (arrL_next Z.M 6 k h6)
          have HFP := hide (flat2_put (arrL Z.M 6 k) k (spZ Z.M k) (by rw [arrL_len]; exact h6))
          have HSZ := hide (show (flat2 (arrL Z.M 6 k)).toArray.size = 12 by rw [List.size_toArray, flat2_dbl, arrL_len])
          have HK6 := hide h6
          rw [HNX.out] at HFP
          generalize spZ Z.M k = sp at *
          obtain ⟨x, y⟩ := sp
          dsimp only at HATk HFP
          obtain ⟨F2, hF2⟩ : ∃ F, flat2 (arrL Z.M 6 (k + 1)) = F := ⟨_, rfl⟩
          have HF2 := hide hF2
          rw [hF2] at HFP
          clear hF2
          generalize flat2 (arrL Z.M 6 k) = F1 at *
          generalize (Z.M.getD k none).isSome = bo at *
          clear HNX h6 hk
          have m3 := cell_of_block Mr.out 3
          go_wp2_with fail
          refine (HATk.out _ Xr.out).mono ?_
          rintro e w10 ⟨rfl, hb⟩
          have M10 := hide ((hb.block _ (heap_lt Mr.out)).trans Mr.out)
          have A10 := hide ((hb.block _ (heap_lt Ar.out)).trans Ar.out)
          have X10 := hide (Xr.out.below hb)
          have B10 := hide (Br.out.trans (hb.mono Xr.out.size))
          clear hb Xr Br Mr Ar m3
          go_upto_region 21 with (refine wpList_storePart rfl 53 (.tmp 105) (.tmp 103) rfl ar (k * 2) rfl #[.int .i64 x, .int .i64 y] rfl 80 _ F2.toArray A10.out (by kernel_rfl) (by rw [HSZ.out]; have := HK6.out; show k * 2 + 2 ≤ 12; omega) (by simp [Value.oneCell']) (by rw [← HFP.out]; rfl) ?_)
          have KF := setRow_keeps (Ts := [80]) A10.out (by decide) (F2.toArray : Array Value)
          have A11 := hide (setRow_same (cs := (F2.toArray : Array Value)) A10.out)
          have X11 := hide (X10.out.keepsT KF (by decide) (by decide) (by decide) (by decide) (by decide) (by decide) (by decide) (by decide) (by decide) (by decide) (by decide))
          have M11 := hide (KF.cells M10.out (by decide))
          have B11 := hide (setRow_below B10.out HAB.out X10.out.size (F2.toArray : Array Value))
          clear KF A10 X10 M10 B10
          generalize w10.setRow ar (F2.toArray : Array Value) = w11 at *
          (try rw [show ∀ (a : Act) (v : Value), a.put none v = a from fun _ _ => rfl])
          go_wp2_with fail
          go_roundw
          case rel => exact ⟨k + 1, HK6.out, by go_num, by rw [HF2.out]; exact A11.out, X11.out, M11.out, B11.out⟩
          case measure => have := HK6.out; simp [intOf]; omega
        · obtain rfl : k = 6 := by omega
          clear hk h6
          go_wp2_with (refine rw_load rfl 29 (.tmp 6) rfl mb rfl 29 #[.pointer (some ⟨A.d, 0, none⟩), .pointer (some ⟨A.pp, 0, none⟩), .pointer (some ⟨A.sb, 0, none⟩), .pointer (some ⟨A.mp, 0, none⟩)] (0, 0) _ Mr.out Tryz.underlying29 rfl (by kernel_rfl) ?_)
          refine (HC2.out _ Xr.out).mono ?_
          rintro e w12 ⟨Z2, rfl, hv, hc2, hm, hb⟩
          have M12 := hide (hb.keep Mr.out (by decide))
          have A12 := hide (hb.keep Ar.out (by decide))
          have X12 := hide hm
          have B12 := hide (Br.out.trans hb.1)
          rw [HID.out Z2 hc2] at X12
          clear hv hc2
          clear hb hm Xr Br Mr Ar HC2
          rw [show (6 : Nat) = 6 from rfl] at *
          go_wp2_with fail
          refine (HCO.out _ X12.out).mono ?_
          rintro e w13 ⟨rfl, hb⟩
          have M13 := hide ((hb.block _ (heap_lt M12.out)).trans M12.out)
          have A13 := hide ((hb.block _ (heap_lt A12.out)).trans A12.out)
          have X13 := hide (X12.out.below hb)
          have B13 := hide (B12.out.trans (hb.mono X12.out.size))
          clear hb X12 B12 M12 A12
          go_wp2_with fail
          go_loopw [116] (fun s W => ∃ k : Nat, k ≤ 6 ∧ s = .int .i64 (k : Int) ∧ W.heap[ar]? = some (.cells (flat2 (arrL Z.M 6 6)).toArray 80 (0, 0)) ∧ MvAt W B0 A 8 4 Z ∧ W.heap[mb]? = some (.cells #[.pointer (some ⟨A.d, 0, none⟩), .pointer (some ⟨A.pp, 0, none⟩), .pointer (some ⟨A.sb, 0, none⟩), .pointer (some ⟨A.mp, 0, none⟩)] 29 (0, 0)) ∧ Below B0 w W) (fun s _ => 6 - (intOf s).toNat)
          case atStart => exact ⟨0, by omega, rfl, A13.out, X13.out, M13.out, B13.out⟩
          case round =>
            obtain ⟨k, hk, rfl, ha, hx, hm, hb⟩ := hrel
            have Ar := hide ha
            have Xr := hide hx
            have Mr := hide hm
            have Br := hide hb
            clear ha hx hm hb A13 X13 M13 B13
            rcases Nat.lt_or_ge k 6 with h6 | h6
            · have hkI : (k : Int) < 6 := by omega
              have HATk := hide (HAT.out k h6)
              have hs := arrL_at Z.M 6 6 k h6
              rw [if_pos h6] at hs
              have HK6 := hide h6
              have HS := hide hs
              generalize spZ Z.M k = sp at *
              obtain ⟨x, y⟩ := sp
              dsimp only at HATk
              generalize (Z.M.getD k none).isSome = bo at *
              clear h6 hk hs
              have m3 := cell_of_block Mr.out 3
              go_wp2_with fail
              refine (HATk.out _ Xr.out).mono ?_
              rintro e w14 ⟨rfl, hb⟩
              have M14 := hide ((hb.block _ (heap_lt Mr.out)).trans Mr.out)
              have A14 := hide ((hb.block _ (heap_lt Ar.out)).trans Ar.out)
              have X14 := hide (Xr.out.below hb)
              have B14 := hide (Br.out.trans (hb.mono Xr.out.size))
              clear hb Xr Br Mr Ar m3
              go_upto_region 29 with (refine rw_store rfl 53 (.tmp 21) (.tmp 124) rfl w14.heap.size rfl #[.int .i64 x, .int .i64 y] rfl _ (heap_new w14 _) (by kernel_rfl) rfl (by simp [Value.oneCell']) ?_)
              have XB := hide (heap_new w14 (.cells #[.int .i64 0, .int .i64 0] 53))
              have hal := (Below.refl w14.heap.size w14).alloc (Nat.le_refl _) (.cells #[.int .i64 0, .int .i64 0] 53)
              have hbb := setRow_below (hal.trans (Below.refl _ _)) (Nat.le_refl _) hal.size (#[.int .i64 x, .int .i64 y] : Array Value)
              have C15 := hide (setRow_same (cs := (#[.int .i64 x, .int .i64 y] : Array Value)) XB.out)
              have M15 := hide ((hbb.block _ (heap_lt M14.out)).trans M14.out)
              have A15 := hide ((hbb.block _ (heap_lt A14.out)).trans A14.out)
              have X15 := hide (X14.out.below hbb)
              have B15 := hide (B14.out.trans (hbb.mono X14.out.size))
              clear hal hbb XB X14 B14 M14 A14
              generalize (w14.alloc (.cells #[.int .i64 0, .int .i64 0] 53)).setRow w14.heap.size (#[.int .i64 x, .int .i64 y] : Array Value) = w15 at *
              generalize w14.heap.size = cb at *
              (try rw [show ∀ (a : Act) (v : Value), a.put none v = a from fun _ _ => rfl])
              have HCA := hide (show ∀ W : World, W.heap[ar]? = some (.cells (flat2 (arrL Z.M 6 6)).toArray 80 (0, 0)) → W.cell? ⟨ar, k * 2, none⟩ = some (.int .i64 x) ∧ W.cell? ⟨ar, k * 2 + 1, none⟩ = some (.int .i64 y) from fun W h => by
                rw [cell_of_block h, cell_of_block h]
                have h1 := flat2_fst (arrL Z.M 6 6) k (by rw [arrL_len]; exact HK6.out)
                have h2 := flat2_snd (arrL Z.M 6 6) k (by rw [arrL_len]; exact HK6.out)
                rw [HS.out] at h1 h2
                exact ⟨by simpa using h1, by simpa using h2⟩)
              go_upto_region 29 with (fail)
              have A0 := hide (show w15.drew.heap[ar]? = _ from A15.out)
              have C0 := hide (show w15.drew.heap[cb]? = _ from C15.out)
              have M0 := hide (show w15.drew.heap[mb]? = _ from M15.out)
              have X0 := hide X15.out.drew
              have B0' := hide (show Below B0 w w15.drew from B15.out.drew)
              clear A15 C15 M15 X15 B15
              have hneq : (!(x == x && y == y)) = false := by simp
              refine wp_region_held_drew (S := (fun W => W.heap[cb]? = some (.cells #[.int .i64 x, .int .i64 y] 53 (0, 0)) ∧ W.heap[ar]? = some (.cells (flat2 (arrL Z.M 6 6)).toArray 80 (0, 0)))) (by kernel_rfl) (⟨C0.out, A0.out⟩) (fun hHeld => ?_)
              generalize w15.drew = v0 at *
              refine wpAnyH_take (i := 0) (oi := { dst := some 126, op := Op.load 53 (Operand.tmp 21), type := 53, pos := "law.go:203", after := #[], guard := none }) (v := ?_) rfl (by kernel_rfl) (by kernel_rfl) (by kernel_rfl) (fun _ _ _ h => h) (Or.inl ⟨by kernel_rfl, ?_⟩) hHeld ?_
              rotate_left
              · (intro w hSw; (try dsimp only at hSw); have cc0 := cell_of_block hSw.1 0; have cc1 := cell_of_block hSw.1 1; obtain ⟨ca0, ca1⟩ := HCA.out _ hSw.2; have q1 := neq_place; have q2 := guard_place; go_simp); try with_reducible rfl
              try simp only [Act.put, List.setIfInBounds_toArray, List.set_cons_zero, List.set_cons_succ]
              refine wpAnyH_take (i := 1) (oi := { dst := some 127, op := Op.move (Operand.tmp 20), type := 3, pos := "law.go:203", after := #[], guard := none }) (v := ?_) rfl (by kernel_rfl) (by kernel_rfl) (by kernel_rfl) (fun _ _ _ h => h) (Or.inl ⟨by kernel_rfl, ?_⟩) hHeld ?_
              rotate_left
              · (intro w hSw; (try dsimp only at hSw); have cc0 := cell_of_block hSw.1 0; have cc1 := cell_of_block hSw.1 1; obtain ⟨ca0, ca1⟩ := HCA.out _ hSw.2; have q1 := neq_place; have q2 := guard_place; go_simp); try with_reducible rfl
              try simp only [Act.put, List.setIfInBounds_toArray, List.set_cons_zero, List.set_cons_succ]
              refine wpAnyH_take (i := 2) (oi := { dst := some 128, op := Op.indexAddr 80 (Operand.tmp 16) (Operand.tmp 127), type := 0, pos := "law.go:203", after := #[{ on := 1, ground := Ground.data }], guard := none }) (v := ?_) rfl (by kernel_rfl) (by kernel_rfl) (by kernel_rfl) (fun _ _ _ h => h) (Or.inl ⟨by kernel_rfl, ?_⟩) hHeld ?_
              rotate_left
              · (intro w hSw; (try dsimp only at hSw); have cc0 := cell_of_block hSw.1 0; have cc1 := cell_of_block hSw.1 1; obtain ⟨ca0, ca1⟩ := HCA.out _ hSw.2; have q1 := neq_place; have q2 := guard_place; go_simp); try with_reducible rfl
              try simp only [Act.put, List.setIfInBounds_toArray, List.set_cons_zero, List.set_cons_succ]
              refine wpAnyH_take (i := 3) (oi := { dst := some 129, op := Op.load 53 (Operand.tmp 128), type := 53, pos := "law.go:203", after := #[{ on := 2, ground := Ground.data }], guard := none }) (v := ?_) rfl (by kernel_rfl) (by kernel_rfl) (by kernel_rfl) (fun _ _ _ h => h) (Or.inl ⟨by kernel_rfl, ?_⟩) hHeld ?_
              rotate_left
              · (intro w hSw; (try dsimp only at hSw); have cc0 := cell_of_block hSw.1 0; have cc1 := cell_of_block hSw.1 1; obtain ⟨ca0, ca1⟩ := HCA.out _ hSw.2; have q1 := neq_place; have q2 := guard_place; go_simp); try with_reducible rfl
              try simp only [Act.put, List.setIfInBounds_toArray, List.set_cons_zero, List.set_cons_succ]
              refine wpAnyH_take (i := 4) (oi := { dst := some 130, op := Op.binOp BinOp.neq 53 (Operand.tmp 126) (Operand.tmp 129) 53, type := 4, pos := "law.go:203", after := #[{ on := 0, ground := Ground.data }, { on := 3, ground := Ground.data }], guard := none }) (v := ?_) rfl (by kernel_rfl) (by kernel_rfl) (by kernel_rfl) (fun _ _ _ h => h) (Or.inl ⟨by kernel_rfl, ?_⟩) hHeld ?_
              rotate_left
              · (intro w hSw; (try dsimp only at hSw); have cc0 := cell_of_block hSw.1 0; have cc1 := cell_of_block hSw.1 1; obtain ⟨ca0, ca1⟩ := HCA.out _ hSw.2; have q1 := neq_place; have q2 := guard_place; go_simp); try with_reducible rfl
              try simp only [Act.put, List.setIfInBounds_toArray, List.set_cons_zero, List.set_cons_succ]
              refine wpAnyH_done (by kernel_rfl) ?_ _
              clear hHeld
              go_wp2_with fail
              go_roundw
              case rel => exact ⟨k + 1, HK6.out, by go_num, A0.out, X0.out, M0.out, B0'.out⟩
              case measure => have := HK6.out; simp [intOf]; omega

            · obtain rfl : k = 6 := by omega
              go_wp2_with fail
              go_ret
              exact ⟨rfl, Br.out⟩

set_option maxRecDepth 100000 in
theorem moveOnce_lifted (os : Os) (started : os.Started) (H : Type) (enc : TypeId × Value → H) :
    ReturnsInHanded {} Tryz.checked os 6 .any (Rows.moveOnceSpec.pre6 enc Tryz.prog Tryz.f6 Rows.moveOnceRow.domain false) (Rows.moveOnceSpec.post enc Tryz.prog Tryz.f6 false true false false) := by
  refine returnsInHanded_of_change (C := Tryz.checked) own started (by kernel_rfl) Tryz.func6
    (ChangeSpec.witness6 (enc := enc) (C := Tryz.checked) false ⟨#[], #[.slice none 0 0, .int .u8 0], []⟩ 8 (by kernel_rfl) (by kernel_rfl) (by kernel_rfl) (by kernel_rfl)) ?_
  intro W base args ds gs before hval0 hW _ _
  have hval : ∀ (j : Nat) t v, Tryz.f6.params[j]? = some t → args[j]? = some v → Value.okWide Tryz.prog W .any base t v := hval0
  have hW' := hW
  obtain ⟨p, q, hA0, hV, rfl, hfz, hnd⟩ := hW
  have hA : DataW.TrodAll enc Tryz.prog W 0 (fun _ => true) true Tryz.f6.params.toList args.toList ds p := hA0
  rw [Tryz.params6] at hA hval
  obtain ⟨v0, vs0, d0, ds0, p0, q0, hargs, rfl, rfl, h0, r0⟩ := trodAll_cons hA
  obtain ⟨v1, vs1, d1, ds1, p1, q1, rfl, rfl, rfl, h1, r1⟩ := trodAll_cons r0
  obtain ⟨rfl, rfl, rfl⟩ := trodAll_nil r1
  obtain rfl : args = #[v0, v1] := by cases args; simp_all
  obtain ⟨rfl, rfl⟩ := trodVars_none hV
  have z0 := open_nums_slice Tryz.underlying66 Tryz.underlying5 (by kernel_rfl) (hval 0 66 v0 rfl rfl) h0
  obtain ⟨block, rfl, rfl, rfl, w1⟩ := open_int Tryz.underlying5 (hval 1 5 v1 rfl rfl) h1
  have z1 := wf_u8 w1
  clear hA0 hval0
  refine (moveOnce_walk v0 block z1.1 z1.2 W z0).mono fun e W' ⟨he, hb⟩ => ?_
  subst he
  exact ⟨_, rfl, post_law laidOut (of_decide_eq_true (by kernel_rfl)) rfl rfl Tryz.underlying4 hW' ⟨rfl, rfl, rfl⟩ hb⟩

/-- THE STATEMENT -/
theorem moveOnce_holds : Rows.MoveOnceSaid :=
  OpenClaim.holds_of_wide 6 Tryz.f6 rfl rfl rfl rfl rfl rfl rfl ⟨rfl, rfl, rfl, rfl, rfl⟩ rfl rfl rfl rfl rfl (by kernel_rfl) Tryz.func6 (by kernel_rfl)
    (of_decide_eq_true (by kernel_rfl)) (by unfold Func.isWrapper; first | (rw [if_pos (by decide +kernel)]; kernel_rfl) | (rw [if_neg (by decide +kernel)]; exact ⟨rfl, rfl⟩))
    (fun os started H enc _ => moveOnce_lifted os started H enc)

end Go.Proofs.YtmcaegbggblfpaaGreat
