/-
  Layer 9: BbtAny.
-/
import Derived.Test.YtfphkldpjfackaaMAny
import Derived.Test.YtfphkldpjfackaaKitC
import Derived.Deep.CutRange
namespace Go.Proofs.Ytfphkldpjfackaa
set_option linter.unusedSimpArgs false
set_option linter.unusedVariables false
open Go.RowKit Go.WideShapes Go.ChangeShapes Go.ChangeAt

theorem wp_storeR {o : Oper} {a : Act} {w : World} {K : Act → World → Prop} {Q : Exit → Act → World → Prop} (x y : Operand) (ho : o.op = .store 26 x y)
    (g : Nat) (hx : a.eval x = .pointer (some ⟨g, 0, none⟩)) (cs : Array Value) (hy : a.eval y = .agg cs) (old : Array Value) (hg : w.heap[g]? = some (.cells old 26 (0, 0)))
    (hi : (Try.prog.info? 26).map (·.size) = some cs.size) (hs : old.size = cs.size) (h1 : cs.all (·.oneCell') = true)
    (h : K (a.put o.dst undef) (w.setRow g cs)) : o.wp Try.prog a w K Q := by
  unfold Oper.wp execOp
  simp only [ho, hx, hy, Instr.storeAt, Instr.sureAddr, Sem.run_bind, Sem.run_pure, Result.andThen_ok, run_storeVar_row w g 26 26 old cs hg hi hs h1]
  exact h
theorem nums_at {w : World} {k : IntKind} {v : Value} {zs : List Int} (h : NumsAt w k v zs) : ∃ (a : Option Addr) (cap : Nat), v = .slice a zs.length cap ∧ zs.length ≤ cap ∧ ∀ i, i < zs.length → ∃ b off, a = some ⟨b, off, none⟩ ∧ b < w.heap.size ∧ w.cell? ⟨b, off + i, none⟩ = some (.int k (zs.getD i 0)) := by
  rcases h with ⟨rfl, rfl⟩ | ⟨b, off, cap, rfl, hc, hm, hp, hi⟩ | ⟨a, cap, rfl, rfl⟩
  · exact ⟨none, 0, rfl, Nat.le_refl _, fun i hi => by simp at hi⟩
  · exact ⟨some ⟨b, off, none⟩, cap, rfl, hc, fun i hil => ⟨b, off, rfl, World.block_lt_of_cell? w _ (hi i hil), hi i hil⟩⟩
  · exact ⟨some a, cap, rfl, Nat.zero_le _, fun i hi => by simp at hi⟩
theorem wf_getD {zs : List Int} {q : IntKind} (h : ∀ z ∈ zs, (Lit.int q z).wf = true) (k : Nat) (hk : k < zs.length) : (Lit.int q (zs.getD k 0)).wf = true :=
  h _ (by simp only [List.getD, List.getElem?_eq_getElem hk, Option.getD_some]; exact List.getElem_mem _)
theorem BA.kept {w0 W W' : World} {b5 b7 : Nat} {v v' : Int} {La Lb : List UInt8} (h : BA w0 W b5 b7 v v' La Lb) (hb : Below W.heap.size W W') : BA w0 W' b5 b7 v v' La Lb :=
  ⟨(hb.block _ (heap_lt h.a)).trans h.a, (hb.block _ (heap_lt h.b)).trans h.b, below_trans h.below hb⟩
/-- a row of numbers, as it lies -/
def RowI (W : World) (a : Option Addr) (L : List Int) : Prop := ∀ i, i < L.length → ∃ gg, a = some ⟨gg, 0, none⟩ ∧ gg < W.heap.size ∧ W.cell? ⟨gg, i, none⟩ = some (.int .i64 (L.getD i 0))
theorem RowI.kept {W W' : World} {a : Option Addr} {L : List Int} (h : RowI W a L) (hb : Below W.heap.size W W') : RowI W' a L := fun i hi => by
  obtain ⟨gg, h1, h2, h3⟩ := h i hi
  exact ⟨gg, h1, Nat.lt_of_lt_of_le h2 hb.size, (hb.cell (p := ⟨gg, i, none⟩) h2).trans h3⟩
theorem RowI.of {w : World} {B e m : Nat} {a : Option Addr} {cap : Nat} {L : List Int} (h : w.ownsRow B e 1 (.slice a m cap) L.length (L.map (Value.int .i64))) : RowI w a L := fun i hi => by
  have h' : w.ownsRow B e 1 (.slice a m cap) L.length (L.flatMap fun x => [Value.int .i64 x]) := by
    have hf : ∀ l : List Int, (l.flatMap fun x => [Value.int .i64 x]) = l.map (Value.int .i64) := by
      intro l
      induction l with
      | nil => rfl
      | cons x l ih => rw [List.flatMap_cons, ih]; rfl
    rw [hf]
    exact h
  obtain ⟨g, rfl, -, hl, hj⟩ := owns_rows (n := 1) (fun x => [Value.int .i64 x]) (fun _ => rfl) 0 h' i hi
  have := hj 0 (by omega)
  rw [Nat.mul_one, Nat.add_zero] at this
  exact ⟨g, rfl, hl, this⟩
set_option maxRecDepth 100000 in
set_option maxHeartbeats 1000000 in
theorem bbtAny_walk (zs : List Int) (hzs : ∀ z ∈ zs, (Lit.int .u8 z).wf = true) (a : Option Addr) (cap : Nat) (hcap : zs.length ≤ cap) (hmaxl : zs.length ≤ 9223372036854775807) (t : Nat) (t1 : t ≤ 255) (w : World)
    (hat : ∀ i, i < zs.length → ∃ b off, a = some ⟨b, off, none⟩ ∧ b < w.heap.size ∧ w.cell? ⟨b, off + i, none⟩ = some (.int .u8 (zs.getD i 0))) :
    Calls Try.prog 5 #[.slice a zs.length cap, .int .u8 (t : Int)] w fun e w' => e = .returned (.bool true) ∧ Below w.heap.size w w' := by
  have HZS := hide hzs
  have HAT := hide hat
  clear hzs hat
  obtain ⟨n, hn⟩ : ∃ n : Nat, min zs.length 30 = n := ⟨_, rfl⟩
  have hn1 : n ≤ zs.length := by omega
  have hn2 : n ≤ 30 := by omega
  have hmI : (min (zs.length : Int) 30) = (n : Int) := by omega
  have hcI : (n : Int) ≤ (cap : Int) := by omega
  have HNEW := hide (fun W => new_any 40 W)
  rw [if_pos (by omega), if_pos (by omega)] at HNEW
  have HI1 := hide (bbt_info 0 40 zeros32 zeros_len)
  have HS1 := hide (bbt_sizes 0 0 0 40 zeros32 zeros32 zeros_len zeros_len)
  have HO1 := hide (bbtC_one 0 40 zeros32)
  have HAZ := hide (fun W => alloc_T W)
  obtain ⟨C, hC⟩ : ∃ C, C = bbtC 0 40 zeros32 := ⟨_, rfl⟩
  obtain ⟨Z, hZ⟩ : ∃ Z, Z = bbtC 0 0 zeros32 := ⟨_, rfl⟩
  have HCE := hide hC
  rw [← hC] at HNEW HI1 HS1 HO1
  rw [← hZ] at HAZ HS1
  clear hC hZ
  go_enter Try.func5, Try.ntmps5
  go_wp2_with fail
  refine (HNEW.out _).mono ?_
  rintro e w1 ⟨rfl, hb1⟩
  have HB1 := hide (row_below hb1 Z C)
  go_wp2_with (first | ((with_reducible show wpList _ _ _ _ _ w1); refine wpList_alloc0 w1 rfl 26 rfl (.pointer (some ⟨w1.heap.size, 0, none⟩)) (w1.alloc (.cells Z 26)) (HAZ.out w1) ?_) | ((with_reducible show wpList _ _ _ _ _ (World.alloc _ _)); refine wpList_storeR rfl 26 (.tmp 5) (.tmp 17) rfl w1.heap.size rfl C rfl Z (heap_new w1 _) HI1.out HS1.out HO1.out ?_))
  have HR1 := hide (row_new w1 Z C)
  generalize (w1.alloc (.cells Z 26)).setRow w1.heap.size C = u1 at *
  have hb1s := hb1.size
  generalize w1.heap.size = b5 at *
  clear hb1
  refine (HNEW.out _).mono ?_
  rintro e w2 ⟨rfl, hb2⟩
  have HB2 := hide (row_below (below_trans HB1.out hb2) Z C)
  have HR2 := hide ((row_old w2 Z C b5 (Nat.lt_of_lt_of_le (heap_lt HR1.out) hb2.size)).trans ((hb2.block _ (heap_lt HR1.out)).trans HR1.out))
  have hb57 : b5 < w2.heap.size := Nat.lt_of_lt_of_le (heap_lt HR1.out) hb2.size
  clear hb2 HB1 HR1
  go_wp2_with (first | ((with_reducible show wpList _ _ _ _ _ w2); refine wpList_alloc0 w2 rfl 26 rfl (.pointer (some ⟨w2.heap.size, 0, none⟩)) (w2.alloc (.cells Z 26)) (HAZ.out w2) ?_) | ((with_reducible show wpList _ _ _ _ _ (World.alloc _ _)); refine wpList_storeR rfl 26 (.tmp 7) (.tmp 21) rfl w2.heap.size rfl C rfl Z (heap_new w2 _) HI1.out HS1.out HO1.out ?_))
  have HR3 := hide (row_new w2 Z C)
  generalize (w2.alloc (.cells Z 26)).setRow w2.heap.size C = u2 at *
  generalize w2.heap.size = b7 at *
  refine (wakes9 _).mono ?_
  rintro e w3 ⟨rfl, hb3⟩
  have HBA := hide (BA.mk (La := zeros32) (Lb := zeros32) (v := 0) (v' := 0) (HCE.out ▸ HR2.out) (HCE.out ▸ HR3.out) HB2.out)
  have HBA3 := hide (HBA.out.kept hb3)
  clear hb3 HBA HR2 HR3 HB2
  go_wp2_with fail
  have HN := hide (show 0 = 0 → min zs.length 30 = n from fun _ => hn)
  clear hn hmI hcI HNEW HI1 HS1 HO1 HAZ HCE
  obtain ⟨g, hg⟩ : ∃ g : Nat → Nat, g = fun j => (zs.getD j 0).toNat % 40 := ⟨_, rfl⟩
  have HG := hide hg
  clear hg
  go_loopw [40] (fun i W => ∃ (j : Nat) (La Lb : List UInt8), j ≤ n ∧ i = .int .i64 j ∧ La.length = 32 ∧ Lb.length = 32 ∧ (∀ k, hasB La k = seen g j k) ∧ (∀ k, hasB Lb k = seen (fun j => g ((j + t) % n)) j k) ∧ BA w W b5 b7 j j La Lb) (fun i _ => n - (intOf i).toNat)
  case atStart => exact ⟨0, zeros32, zeros32, by omega, rfl, rfl, rfl, fun k => by rw [zeros_has, seen_zero], fun k => by rw [zeros_has, seen_zero], HBA3.out⟩
  case round =>
    clear HBA3
    obtain ⟨j, La, Lb, hj, rfl, hLa, hLb, hsa, hsb, hba⟩ := hrel
    have HSA := hide hsa
    have HSB := hide hsb
    have HBA := hide hba
    clear hsa hsb
    by_cases hlt : j < n
    · obtain ⟨b, off, rfl, hbw, c0⟩ := HAT.out j (by omega)
      obtain ⟨m, hm⟩ : ∃ m : Nat, (j + t) % n = m := ⟨_, rfl⟩
      have hmod : m < n := by rw [← hm]; exact Nat.mod_lt _ (by omega)
      have HM := hide hm
      have hn0 : ¬ n = 0 := by omega
      have hwi : (IntKind.i64.wrap ((j : Int) + IntKind.i64.wrap (t : Int))).tmod (n : Int) = (m : Int) := by
        have e1 : IntKind.i64.wrap (t : Int) = (t : Int) := by rw [IntKind.wrap_i64]; omega
        have e2 : IntKind.i64.wrap ((j : Int) + (t : Int)) = (j : Int) + (t : Int) := by rw [IntKind.wrap_i64]; omega
        rw [e1, e2, Int.tmod_eq_emod_of_nonneg (by omega), ← hm, Int.natCast_emod, Int.natCast_add]
      clear hm
      obtain ⟨b', off', hbb, -, c1⟩ := HAT.out m (by omega)
      simp only [Option.some.injEq, Addr.mk.injEq, and_true] at hbb
      obtain ⟨rfl, rfl⟩ := hbb
      obtain ⟨x0, x1⟩ := wf_u8 (wf_getD HZS.out j (by omega))
      obtain ⟨y0, y1⟩ := wf_u8 (wf_getD HZS.out m (by omega))
      have d0 : wr.cell? ⟨b, off + j, none⟩ = some (.int .u8 (zs.getD j 0)) := (hba.below.cell (p := ⟨b, off + j, none⟩) hbw).trans c0
      have d1 : wr.cell? ⟨b, off + m, none⟩ = some (.int .u8 (zs.getD m 0)) := (hba.below.cell (p := ⟨b, off + m, none⟩) hbw).trans c1
      have HGJ := hide (show g j = (zs.getD j 0).toNat % 40 by rw [HG.out])
      have HGT := hide (show g m = (zs.getD m 0).toNat % 40 by rw [HG.out])
      generalize zs.getD j 0 = x at *
      generalize zs.getD m 0 = y at *
      have hgj : x % 40 = (g j : Int) := by have := HGJ.out; omega
      have hgt : y % 40 = (g m : Int) := by have := HGT.out; omega
      have hwx : (IntKind.i64.wrap x).tmod 40 = (g j : Int) := by
        have e : IntKind.i64.wrap x = x := by rw [IntKind.wrap_i64]; omega
        rw [e, Int.tmod_eq_emod_of_nonneg x0]; exact hgj
      have hwy : (IntKind.i64.wrap y).tmod 40 = (g m : Int) := by
        have e : IntKind.i64.wrap y = y := by rw [IntKind.wrap_i64]; omega
        rw [e, Int.tmod_eq_emod_of_nonneg y0]; exact hgt
      have hg40 : g j < 40 := by have := HGJ.out; omega
      have hg40' : g m < 40 := by have := HGT.out; omega
      have HWA := hide (fun W => with_ok (j : Int) 40 (by omega) (by omega) La hLa (g j) (by omega) (by omega) W)
      have HWB := hide (fun W => with_ok (j : Int) 40 (by omega) (by omega) Lb hLb (g m) (by omega) (by omega) W)
      have hbl : b < wr.heap.size := Nat.lt_of_lt_of_le hbw hba.below.size
      have hb5w : w.heap.size ≤ b5 := by omega
      have hnb : b ≠ b5 := by omega
      have hnb7 : b ≠ b7 := by omega
      have HIA := hide (bbt_info (j : Int) 40 La hLa)
      have HIA2 := hide (bbt_info ((j : Int) + 1) 40 (withB La (g j)) (by rw [withB_length]; exact hLa))
      have HOA2 := hide (bbtC_one ((j : Int) + 1) 40 (withB La (g j)))
      have HSA2 := hide (bbt_sizes (j : Int) 40 ((j : Int) + 1) 40 La (withB La (g j)) hLa (by rw [withB_length]; exact hLa))
      have HIB := hide (bbt_info (j : Int) 40 Lb hLb)
      have HIB2 := hide (bbt_info ((j : Int) + 1) 40 (withB Lb (g m)) (by rw [withB_length]; exact hLb))
      have HOB2 := hide (bbtC_one ((j : Int) + 1) 40 (withB Lb (g m)))
      have HSB2 := hide (bbt_sizes (j : Int) 40 ((j : Int) + 1) 40 Lb (withB Lb (g m)) hLb (by rw [withB_length]; exact hLb))
      clear c0 c1 hba
      go_upto_region 10 with (fail)
      have HBAp0 := hide (show BA w wr.drew b5 b7 j j La Lb from ⟨HBA.out.a, HBA.out.b, HBA.out.below.drew⟩)
      have hblp : b < wr.drew.heap.size := hbl
      refine wp_region_held_drew (S := (fun W => W.cell? ⟨b, off + j, none⟩ = some (.int .u8 x) ∧ W.cell? ⟨b, off + m, none⟩ = some (.int .u8 y))) (by kernel_rfl) (⟨d0, d1⟩) (fun hHeld => ?_)
      generalize wr.drew = p0 at *
      refine wpAnyH_take (i := 1) (oi := { dst := some 45, op := Op.move (Operand.tmp 0), type := 39, pos := "law.go:128", after := #[], guard := none }) (v := ?_) rfl (by kernel_rfl) (by kernel_rfl) (by kernel_rfl) (fun _ _ _ h => h) (Or.inl ⟨by kernel_rfl, ?_⟩) hHeld ?_
      rotate_left
      · (intro w hSw; (try dsimp only at hSw); go_simp); try with_reducible rfl
      try simp only [Act.put, List.setIfInBounds_toArray, List.set_cons_zero, List.set_cons_succ]
      refine wpAnyH_take (i := 2) (oi := { dst := some 46, op := Op.move (Operand.tmp 9), type := 3, pos := "law.go:128", after := #[], guard := none }) (v := ?_) rfl (by kernel_rfl) (by kernel_rfl) (by kernel_rfl) (fun _ _ _ h => h) (Or.inl ⟨by kernel_rfl, ?_⟩) hHeld ?_
      rotate_left
      · (intro w hSw; (try dsimp only at hSw); go_simp); try with_reducible rfl
      try simp only [Act.put, List.setIfInBounds_toArray, List.set_cons_zero, List.set_cons_succ]
      refine wpAnyH_take (i := 3) (oi := { dst := some 47, op := Op.indexAddr 39 (Operand.tmp 45) (Operand.tmp 46), type := 0, pos := "law.go:128", after := #[{ on := 1, ground := Ground.data }, { on := 2, ground := Ground.data }], guard := none }) (v := ?_) rfl (by kernel_rfl) (by kernel_rfl) (by kernel_rfl) (fun _ _ _ h => h) (Or.inl ⟨by kernel_rfl, ?_⟩) hHeld ?_
      rotate_left
      · (intro w hSw; (try dsimp only at hSw); go_simp); try with_reducible rfl
      try simp only [Act.put, List.setIfInBounds_toArray, List.set_cons_zero, List.set_cons_succ]
      refine wpAnyH_take (i := 4) (oi := { dst := some 48, op := Op.load 5 (Operand.tmp 47), type := 5, pos := "law.go:128", after := #[{ on := 3, ground := Ground.data }], guard := none }) (v := ?_) rfl (by kernel_rfl) (by kernel_rfl) (by kernel_rfl) (fun _ _ _ h => h) (Or.inl ⟨by kernel_rfl, ?_⟩) hHeld ?_
      rotate_left
      · (intro w hSw; (try dsimp only at hSw); go_simp); try with_reducible rfl
      try simp only [Act.put, List.setIfInBounds_toArray, List.set_cons_zero, List.set_cons_succ]
      refine wpAnyH_take (i := 5) (oi := { dst := some 49, op := Op.convert 5 3 (Operand.tmp 48), type := 3, pos := "law.go:128", after := #[{ on := 4, ground := Ground.data }], guard := none }) (v := ?_) rfl (by kernel_rfl) (by kernel_rfl) (by kernel_rfl) (fun _ _ _ h => h) (Or.inl ⟨by kernel_rfl, ?_⟩) hHeld ?_
      rotate_left
      · (intro w hSw; (try dsimp only at hSw); go_simp); try with_reducible rfl
      try simp only [Act.put, List.setIfInBounds_toArray, List.set_cons_zero, List.set_cons_succ]
      refine wpAnyH_take (i := 6) (oi := { dst := some 50, op := Op.binOp BinOp.rem 3 (Operand.tmp 49) (Operand.const (Value.int IntKind.i64 40)) 3, type := 3, pos := "law.go:128", after := #[{ on := 5, ground := Ground.data }], guard := none }) (v := ?_) rfl (by kernel_rfl) (by kernel_rfl) (by kernel_rfl) (fun _ _ _ h => h) (Or.inl ⟨by kernel_rfl, ?_⟩) hHeld ?_
      rotate_left
      · (intro w hSw; (try dsimp only at hSw); go_simp); try with_reducible rfl
      try simp only [Act.put, List.setIfInBounds_toArray, List.set_cons_zero, List.set_cons_succ]
      refine wpAnyH_ready (rs := [0]) (by kernel_rfl) (by simp) (AllReadyH.cons (o := { dst := some 44, op := Op.load 26 (Operand.tmp 5), type := 26, pos := "law.go:128", after := #[], guard := none }) rfl (fun K hK => ?_) AllReadyH.nil)
      have hOld := hide hHeld
      clear hHeld
      refine wp_load_row 26 (.tmp 5) rfl b5 rfl 26 _ (0, 0) _ HBAp0.out.a Try.underlying26 rfl HIA.out ?_
      refine hK.out _ _ (hOld.out) (fun hHeld => ?_)
      clear hK K hOld
      try simp only [Act.put, List.setIfInBounds_toArray, List.set_cons_zero, List.set_cons_succ]
      refine wpAnyH_ready (rs := [7]) (by kernel_rfl) (by simp) (AllReadyH.cons (o := { dst := some 51, op := Op.call { callee := Callee.value (Operand.func 10), args := #[Operand.tmp 44, Operand.tmp 50], argTypes := #[26, 3] }, type := 28, pos := "law.go:128", after := #[{ on := 0, ground := Ground.data }, { on := 6, ground := Ground.data }], guard := none }) rfl (fun K hK => ?_) AllReadyH.nil)
      have hOld := hide hHeld
      clear hHeld
      go_simp
      (try rw [hwx])
      refine (HWA.out _).mono ?_
      rintro e p1 ⟨rfl, hb⟩
      have HBAp1 := hide (HBAp0.out.kept hb)
      have hdp := (hb.cell (p := ⟨b, off + j, none⟩) (by exact hblp)).trans hOld.out.1
      have hep := (hb.cell (p := ⟨b, off + m, none⟩) (by exact hblp)).trans hOld.out.2
      have hblxp : b < p1.heap.size := Nat.lt_of_lt_of_le hblp hb.size
      clear hb
      (try go_wp2_with fail)
      refine hK.out _ _ (⟨hdp, hep⟩) (fun hHeld => ?_)
      clear hK K hOld
      try simp only [Act.put, List.setIfInBounds_toArray, List.set_cons_zero, List.set_cons_succ]
      refine wpAnyH_take (i := 8) (oi := { dst := some 43, op := Op.move (Operand.tmp 51), type := 28, pos := "law.go:128", after := #[{ on := 7, ground := Ground.data }], guard := none }) (v := ?_) rfl (by kernel_rfl) (by kernel_rfl) (by kernel_rfl) (fun _ _ _ h => h) (Or.inl ⟨by kernel_rfl, ?_⟩) hHeld ?_
      rotate_left
      · (intro w hSw; (try dsimp only at hSw); go_simp); try with_reducible rfl
      try simp only [Act.put, List.setIfInBounds_toArray, List.set_cons_zero, List.set_cons_succ]
      refine wpAnyH_take (i := 9) (oi := { dst := some 52, op := Op.extract (Operand.tmp 43) 0, type := 26, pos := "law.go:128", after := #[{ on := 8, ground := Ground.data }], guard := none }) (v := ?_) rfl (by kernel_rfl) (by kernel_rfl) (by kernel_rfl) (fun _ _ _ h => h) (Or.inl ⟨by kernel_rfl, ?_⟩) hHeld ?_
      rotate_left
      · (intro w hSw; (try dsimp only at hSw); go_simp); try with_reducible rfl
      try simp only [Act.put, List.setIfInBounds_toArray, List.set_cons_zero, List.set_cons_succ]
      refine wpAnyH_take (i := 10) (oi := { dst := some 53, op := Op.extract (Operand.tmp 43) 1, type := 27, pos := "law.go:128", after := #[{ on := 8, ground := Ground.data }, { on := 11, ground := Ground.gcOnly Departure.lateStores }], guard := none }) (v := ?_) rfl (by kernel_rfl) (by kernel_rfl) (by kernel_rfl) (fun _ _ _ h => h) (Or.inl ⟨by kernel_rfl, ?_⟩) hHeld ?_
      rotate_left
      · (intro w hSw; (try dsimp only at hSw); go_simp); try with_reducible rfl
      try simp only [Act.put, List.setIfInBounds_toArray, List.set_cons_zero, List.set_cons_succ]
      refine wpAnyH_ready (rs := [11]) (by kernel_rfl) (by simp) (AllReadyH.cons (o := { dst := none, op := Op.store 26 (Operand.tmp 5) (Operand.tmp 52), type := 0, pos := "law.go:128", after := #[{ on := 9, ground := Ground.data }, { on := 7, ground := Ground.chain }, { on := 0, ground := Ground.phase }, { on := 1, ground := Ground.phase }, { on := 2, ground := Ground.phase }, { on := 3, ground := Ground.phase }, { on := 4, ground := Ground.phase }, { on := 5, ground := Ground.phase }, { on := 6, ground := Ground.phase }, { on := 7, ground := Ground.phase }, { on := 8, ground := Ground.phase }, { on := 9, ground := Ground.phase }, { on := 10, ground := Ground.textOnly Departure.lateStores }], guard := none }) rfl (fun K hK => ?_) AllReadyH.nil)
      have hOld := hide hHeld
      clear hHeld
      have HRNp := hide (setRow_heap p1 b5 _ (bbtC ((j : Int) + 1) 40 (withB La (g j))) 26 (0, 0) HBAp1.out.a)
      have HROp := hide ((setRow_other p1 b5 b7 (bbtC ((j : Int) + 1) 40 (withB La (g j))) (by omega)).trans HBAp1.out.b)
      have HRBp := hide (setRow_below HBAp1.out.below (g := b5) (by omega) (bbtC ((j : Int) + 1) 40 (withB La (g j))))
      have hcxp : (p1.setRow b5 (bbtC ((j : Int) + 1) 40 (withB La (g j)))).cell? ⟨b, off + j, none⟩ = some (.int .u8 x) := by
        have h := hdp
        simp only [World.cell?, setRow_other p1 b5 b (bbtC ((j : Int) + 1) 40 (withB La (g j))) (by omega)] at h ⊢
        exact h
      have hcyp : (p1.setRow b5 (bbtC ((j : Int) + 1) 40 (withB La (g j)))).cell? ⟨b, off + m, none⟩ = some (.int .u8 y) := by
        have h := hep
        simp only [World.cell?, setRow_other p1 b5 b (bbtC ((j : Int) + 1) 40 (withB La (g j))) (by omega)] at h ⊢
        exact h
      have hbsp : b < (p1.setRow b5 (bbtC ((j : Int) + 1) 40 (withB La (g j)))).heap.size := by simp [World.setRow]; exact hblxp
      refine wp_storeR (.tmp 5) (.tmp 52) rfl b5 rfl (bbtC ((j : Int) + 1) 40 (withB La (g j))) rfl _ HBAp1.out.a HIA2.out HSA2.out HOA2.out ?_
      generalize p1.setRow b5 (bbtC ((j : Int) + 1) 40 (withB La (g j))) = p2 at *
      refine hK.out _ _ (⟨hcxp, hcyp⟩) (fun hHeld => ?_)
      clear hK K hOld
      try simp only [Act.put, List.setIfInBounds_toArray, List.set_cons_zero, List.set_cons_succ]
      refine wpAnyH_take (i := 12) (oi := { dst := some 10, op := Op.assign (Operand.tmp 53), type := 27, pos := "law.go:128", after := #[{ on := 10, ground := Ground.data }, { on := 11, ground := Ground.chain }, { on := 0, ground := Ground.phase }, { on := 1, ground := Ground.phase }, { on := 2, ground := Ground.phase }, { on := 3, ground := Ground.phase }, { on := 4, ground := Ground.phase }, { on := 5, ground := Ground.phase }, { on := 6, ground := Ground.phase }, { on := 7, ground := Ground.phase }, { on := 8, ground := Ground.phase }, { on := 9, ground := Ground.phase }, { on := 10, ground := Ground.phase }, { on := 11, ground := Ground.phase }], guard := none }) (v := ?_) rfl (by kernel_rfl) (by kernel_rfl) (by kernel_rfl) (fun _ _ _ h => h) (Or.inl ⟨by kernel_rfl, ?_⟩) hHeld ?_
      rotate_left
      · (intro w hSw; (try dsimp only at hSw); go_simp); try with_reducible rfl
      try simp only [Act.put, List.setIfInBounds_toArray, List.set_cons_zero, List.set_cons_succ]
      refine wpAnyH_done (by kernel_rfl) ?_ _
      clear hHeld HBAp0 HBAp1 HWA HIA HIA2 HOA2 HSA2 hblp hdp hep hblxp d0 d1 HBA
      go_upto_region 11 with (fail)
      have HBAq0 := hide (show BA w p2.drew b5 b7 ((j : Int) + 1) j (withB La (g j)) Lb from ⟨HRNp.out, HROp.out, HRBp.out.drew⟩)
      have hblq : b < p2.drew.heap.size := hbsp
      refine wp_region_held_drew (S := (fun W => W.cell? ⟨b, off + j, none⟩ = some (.int .u8 x) ∧ W.cell? ⟨b, off + m, none⟩ = some (.int .u8 y))) (by kernel_rfl) (⟨hcxp, hcyp⟩) (fun hHeld => ?_)
      generalize p2.drew = q0 at *
      refine wpAnyH_take (i := 1) (oi := { dst := some 56, op := Op.move (Operand.tmp 0), type := 39, pos := "law.go:129", after := #[], guard := none }) (v := ?_) rfl (by kernel_rfl) (by kernel_rfl) (by kernel_rfl) (fun _ _ _ h => h) (Or.inl ⟨by kernel_rfl, ?_⟩) hHeld ?_
      rotate_left
      · (intro w hSw; (try dsimp only at hSw); go_simp); try with_reducible rfl
      try simp only [Act.put, List.setIfInBounds_toArray, List.set_cons_zero, List.set_cons_succ]
      refine wpAnyH_take (i := 2) (oi := { dst := some 57, op := Op.move (Operand.tmp 9), type := 3, pos := "law.go:129", after := #[], guard := none }) (v := ?_) rfl (by kernel_rfl) (by kernel_rfl) (by kernel_rfl) (fun _ _ _ h => h) (Or.inl ⟨by kernel_rfl, ?_⟩) hHeld ?_
      rotate_left
      · (intro w hSw; (try dsimp only at hSw); go_simp); try with_reducible rfl
      try simp only [Act.put, List.setIfInBounds_toArray, List.set_cons_zero, List.set_cons_succ]
      refine wpAnyH_take (i := 3) (oi := { dst := some 58, op := Op.move (Operand.tmp 1), type := 5, pos := "law.go:129", after := #[], guard := none }) (v := ?_) rfl (by kernel_rfl) (by kernel_rfl) (by kernel_rfl) (fun _ _ _ h => h) (Or.inl ⟨by kernel_rfl, ?_⟩) hHeld ?_
      rotate_left
      · (intro w hSw; (try dsimp only at hSw); go_simp); try with_reducible rfl
      try simp only [Act.put, List.setIfInBounds_toArray, List.set_cons_zero, List.set_cons_succ]
      refine wpAnyH_take (i := 4) (oi := { dst := some 59, op := Op.convert 5 3 (Operand.tmp 58), type := 3, pos := "law.go:129", after := #[{ on := 3, ground := Ground.data }], guard := none }) (v := ?_) rfl (by kernel_rfl) (by kernel_rfl) (by kernel_rfl) (fun _ _ _ h => h) (Or.inl ⟨by kernel_rfl, ?_⟩) hHeld ?_
      rotate_left
      · (intro w hSw; (try dsimp only at hSw); go_simp); try with_reducible rfl
      try simp only [Act.put, List.setIfInBounds_toArray, List.set_cons_zero, List.set_cons_succ]
      refine wpAnyH_take (i := 5) (oi := { dst := some 60, op := Op.binOp BinOp.add 3 (Operand.tmp 57) (Operand.tmp 59) 3, type := 3, pos := "law.go:129", after := #[{ on := 2, ground := Ground.data }, { on := 4, ground := Ground.data }], guard := none }) (v := ?_) rfl (by kernel_rfl) (by kernel_rfl) (by kernel_rfl) (fun _ _ _ h => h) (Or.inl ⟨by kernel_rfl, ?_⟩) hHeld ?_
      rotate_left
      · (intro w hSw; (try dsimp only at hSw); go_simp); try with_reducible rfl
      try simp only [Act.put, List.setIfInBounds_toArray, List.set_cons_zero, List.set_cons_succ]
      refine wpAnyH_take (i := 6) (oi := { dst := some 61, op := Op.move (Operand.tmp 0), type := 39, pos := "law.go:129", after := #[], guard := none }) (v := ?_) rfl (by kernel_rfl) (by kernel_rfl) (by kernel_rfl) (fun _ _ _ h => h) (Or.inl ⟨by kernel_rfl, ?_⟩) hHeld ?_
      rotate_left
      · (intro w hSw; (try dsimp only at hSw); go_simp); try with_reducible rfl
      try simp only [Act.put, List.setIfInBounds_toArray, List.set_cons_zero, List.set_cons_succ]
      refine wpAnyH_take (i := 7) (oi := { dst := some 62, op := Op.call { callee := Callee.builtin Builtin.len, args := #[Operand.tmp 61], argTypes := #[39] }, type := 3, pos := "law.go:129", after := #[{ on := 6, ground := Ground.data }], guard := none }) (v := ?_) rfl (by kernel_rfl) (by kernel_rfl) (by kernel_rfl) (fun _ _ _ h => h) (Or.inl ⟨by kernel_rfl, ?_⟩) hHeld ?_
      rotate_left
      · (intro w hSw; (try dsimp only at hSw); go_simp); try with_reducible rfl
      try simp only [Act.put, List.setIfInBounds_toArray, List.set_cons_zero, List.set_cons_succ]
      refine wpAnyH_take (i := 8) (oi := { dst := some 63, op := Op.binOp BinOp.rem 3 (Operand.tmp 60) (Operand.tmp 62) 3, type := 3, pos := "law.go:129", after := #[{ on := 5, ground := Ground.data }, { on := 7, ground := Ground.data }], guard := none }) (v := ?_) rfl (by kernel_rfl) (by kernel_rfl) (by kernel_rfl) (fun _ _ _ h => h) (Or.inl ⟨by kernel_rfl, ?_⟩) hHeld ?_
      rotate_left
      · (intro w hSw; (try dsimp only at hSw); go_simp); try with_reducible rfl
      try simp only [Act.put, List.setIfInBounds_toArray, List.set_cons_zero, List.set_cons_succ]
      refine wpAnyH_take (i := 9) (oi := { dst := some 64, op := Op.indexAddr 39 (Operand.tmp 56) (Operand.tmp 63), type := 0, pos := "law.go:129", after := #[{ on := 1, ground := Ground.data }, { on := 8, ground := Ground.data }], guard := none }) (v := ?_) rfl (by kernel_rfl) (by kernel_rfl) (by kernel_rfl) (fun _ _ _ h => h) (Or.inl ⟨by kernel_rfl, ?_⟩) hHeld ?_
      rotate_left
      · (intro w hSw; (try dsimp only at hSw); go_simp); try with_reducible rfl
      try simp only [Act.put, List.setIfInBounds_toArray, List.set_cons_zero, List.set_cons_succ]
      refine wpAnyH_take (i := 10) (oi := { dst := some 65, op := Op.load 5 (Operand.tmp 64), type := 5, pos := "law.go:129", after := #[{ on := 9, ground := Ground.data }], guard := none }) (v := ?_) rfl (by kernel_rfl) (by kernel_rfl) (by kernel_rfl) (fun _ _ _ h => h) (Or.inl ⟨by kernel_rfl, ?_⟩) hHeld ?_
      rotate_left
      · (intro w hSw; (try dsimp only at hSw); go_simp); try with_reducible rfl
      try simp only [Act.put, List.setIfInBounds_toArray, List.set_cons_zero, List.set_cons_succ]
      refine wpAnyH_take (i := 11) (oi := { dst := some 66, op := Op.convert 5 3 (Operand.tmp 65), type := 3, pos := "law.go:129", after := #[{ on := 10, ground := Ground.data }], guard := none }) (v := ?_) rfl (by kernel_rfl) (by kernel_rfl) (by kernel_rfl) (fun _ _ _ h => h) (Or.inl ⟨by kernel_rfl, ?_⟩) hHeld ?_
      rotate_left
      · (intro w hSw; (try dsimp only at hSw); go_simp); try with_reducible rfl
      try simp only [Act.put, List.setIfInBounds_toArray, List.set_cons_zero, List.set_cons_succ]
      refine wpAnyH_take (i := 12) (oi := { dst := some 67, op := Op.binOp BinOp.rem 3 (Operand.tmp 66) (Operand.const (Value.int IntKind.i64 40)) 3, type := 3, pos := "law.go:129", after := #[{ on := 11, ground := Ground.data }], guard := none }) (v := ?_) rfl (by kernel_rfl) (by kernel_rfl) (by kernel_rfl) (fun _ _ _ h => h) (Or.inl ⟨by kernel_rfl, ?_⟩) hHeld ?_
      rotate_left
      · (intro w hSw; (try dsimp only at hSw); go_simp); try with_reducible rfl
      try simp only [Act.put, List.setIfInBounds_toArray, List.set_cons_zero, List.set_cons_succ]
      refine wpAnyH_ready (rs := [0]) (by kernel_rfl) (by simp) (AllReadyH.cons (o := { dst := some 55, op := Op.load 26 (Operand.tmp 7), type := 26, pos := "law.go:129", after := #[], guard := none }) rfl (fun K hK => ?_) AllReadyH.nil)
      have hOld := hide hHeld
      clear hHeld
      refine wp_load_row 26 (.tmp 7) rfl b7 rfl 26 _ (0, 0) _ HBAq0.out.b Try.underlying26 rfl HIB.out ?_
      refine hK.out _ _ (hOld.out) (fun hHeld => ?_)
      clear hK K hOld
      try simp only [Act.put, List.setIfInBounds_toArray, List.set_cons_zero, List.set_cons_succ]
      refine wpAnyH_ready (rs := [13]) (by kernel_rfl) (by simp) (AllReadyH.cons (o := { dst := some 68, op := Op.call { callee := Callee.value (Operand.func 10), args := #[Operand.tmp 55, Operand.tmp 67], argTypes := #[26, 3] }, type := 28, pos := "law.go:129", after := #[{ on := 0, ground := Ground.data }, { on := 12, ground := Ground.data }], guard := none }) rfl (fun K hK => ?_) AllReadyH.nil)
      have hOld := hide hHeld
      clear hHeld
      go_simp
      (try rw [hwy])
      refine (HWB.out _).mono ?_
      rintro e q1 ⟨rfl, hb⟩
      have HBAq1 := hide (HBAq0.out.kept hb)
      have hdq := (hb.cell (p := ⟨b, off + j, none⟩) (by exact hblq)).trans hOld.out.1
      have heq := (hb.cell (p := ⟨b, off + m, none⟩) (by exact hblq)).trans hOld.out.2
      have hblxq : b < q1.heap.size := Nat.lt_of_lt_of_le hblq hb.size
      clear hb
      (try go_wp2_with fail)
      refine hK.out _ _ (⟨hdq, heq⟩) (fun hHeld => ?_)
      clear hK K hOld
      try simp only [Act.put, List.setIfInBounds_toArray, List.set_cons_zero, List.set_cons_succ]
      refine wpAnyH_take (i := 14) (oi := { dst := some 54, op := Op.move (Operand.tmp 68), type := 28, pos := "law.go:129", after := #[{ on := 13, ground := Ground.data }], guard := none }) (v := ?_) rfl (by kernel_rfl) (by kernel_rfl) (by kernel_rfl) (fun _ _ _ h => h) (Or.inl ⟨by kernel_rfl, ?_⟩) hHeld ?_
      rotate_left
      · (intro w hSw; (try dsimp only at hSw); go_simp); try with_reducible rfl
      try simp only [Act.put, List.setIfInBounds_toArray, List.set_cons_zero, List.set_cons_succ]
      refine wpAnyH_take (i := 15) (oi := { dst := some 69, op := Op.extract (Operand.tmp 54) 0, type := 26, pos := "law.go:129", after := #[{ on := 14, ground := Ground.data }], guard := none }) (v := ?_) rfl (by kernel_rfl) (by kernel_rfl) (by kernel_rfl) (fun _ _ _ h => h) (Or.inl ⟨by kernel_rfl, ?_⟩) hHeld ?_
      rotate_left
      · (intro w hSw; (try dsimp only at hSw); go_simp); try with_reducible rfl
      try simp only [Act.put, List.setIfInBounds_toArray, List.set_cons_zero, List.set_cons_succ]
      refine wpAnyH_take (i := 16) (oi := { dst := some 70, op := Op.extract (Operand.tmp 54) 1, type := 27, pos := "law.go:129", after := #[{ on := 14, ground := Ground.data }, { on := 17, ground := Ground.gcOnly Departure.lateStores }], guard := none }) (v := ?_) rfl (by kernel_rfl) (by kernel_rfl) (by kernel_rfl) (fun _ _ _ h => h) (Or.inl ⟨by kernel_rfl, ?_⟩) hHeld ?_
      rotate_left
      · (intro w hSw; (try dsimp only at hSw); go_simp); try with_reducible rfl
      try simp only [Act.put, List.setIfInBounds_toArray, List.set_cons_zero, List.set_cons_succ]
      refine wpAnyH_ready (rs := [17]) (by kernel_rfl) (by simp) (AllReadyH.cons (o := { dst := none, op := Op.store 26 (Operand.tmp 7) (Operand.tmp 69), type := 0, pos := "law.go:129", after := #[{ on := 15, ground := Ground.data }, { on := 13, ground := Ground.chain }, { on := 0, ground := Ground.phase }, { on := 1, ground := Ground.phase }, { on := 2, ground := Ground.phase }, { on := 3, ground := Ground.phase }, { on := 4, ground := Ground.phase }, { on := 5, ground := Ground.phase }, { on := 6, ground := Ground.phase }, { on := 7, ground := Ground.phase }, { on := 8, ground := Ground.phase }, { on := 9, ground := Ground.phase }, { on := 10, ground := Ground.phase }, { on := 11, ground := Ground.phase }, { on := 12, ground := Ground.phase }, { on := 13, ground := Ground.phase }, { on := 14, ground := Ground.phase }, { on := 15, ground := Ground.phase }, { on := 16, ground := Ground.textOnly Departure.lateStores }], guard := none }) rfl (fun K hK => ?_) AllReadyH.nil)
      have hOld := hide hHeld
      clear hHeld
      have HRNq := hide (setRow_heap q1 b7 _ (bbtC ((j : Int) + 1) 40 (withB Lb (g m))) 26 (0, 0) HBAq1.out.b)
      have HROq := hide ((setRow_other q1 b7 b5 (bbtC ((j : Int) + 1) 40 (withB Lb (g m))) (by omega)).trans HBAq1.out.a)
      have HRBq := hide (setRow_below HBAq1.out.below (g := b7) (by omega) (bbtC ((j : Int) + 1) 40 (withB Lb (g m))))
      have hcxq : (q1.setRow b7 (bbtC ((j : Int) + 1) 40 (withB Lb (g m)))).cell? ⟨b, off + j, none⟩ = some (.int .u8 x) := by
        have h := hdq
        simp only [World.cell?, setRow_other q1 b7 b (bbtC ((j : Int) + 1) 40 (withB Lb (g m))) (by omega)] at h ⊢
        exact h
      have hcyq : (q1.setRow b7 (bbtC ((j : Int) + 1) 40 (withB Lb (g m)))).cell? ⟨b, off + m, none⟩ = some (.int .u8 y) := by
        have h := heq
        simp only [World.cell?, setRow_other q1 b7 b (bbtC ((j : Int) + 1) 40 (withB Lb (g m))) (by omega)] at h ⊢
        exact h
      have hbsq : b < (q1.setRow b7 (bbtC ((j : Int) + 1) 40 (withB Lb (g m)))).heap.size := by simp [World.setRow]; exact hblxq
      refine wp_storeR (.tmp 7) (.tmp 69) rfl b7 rfl (bbtC ((j : Int) + 1) 40 (withB Lb (g m))) rfl _ HBAq1.out.b HIB2.out HSB2.out HOB2.out ?_
      generalize q1.setRow b7 (bbtC ((j : Int) + 1) 40 (withB Lb (g m))) = q2 at *
      refine hK.out _ _ (⟨hcxq, hcyq⟩) (fun hHeld => ?_)
      clear hK K hOld
      try simp only [Act.put, List.setIfInBounds_toArray, List.set_cons_zero, List.set_cons_succ]
      refine wpAnyH_take (i := 18) (oi := { dst := some 11, op := Op.assign (Operand.tmp 70), type := 27, pos := "law.go:129", after := #[{ on := 16, ground := Ground.data }, { on := 17, ground := Ground.chain }, { on := 0, ground := Ground.phase }, { on := 1, ground := Ground.phase }, { on := 2, ground := Ground.phase }, { on := 3, ground := Ground.phase }, { on := 4, ground := Ground.phase }, { on := 5, ground := Ground.phase }, { on := 6, ground := Ground.phase }, { on := 7, ground := Ground.phase }, { on := 8, ground := Ground.phase }, { on := 9, ground := Ground.phase }, { on := 10, ground := Ground.phase }, { on := 11, ground := Ground.phase }, { on := 12, ground := Ground.phase }, { on := 13, ground := Ground.phase }, { on := 14, ground := Ground.phase }, { on := 15, ground := Ground.phase }, { on := 16, ground := Ground.phase }, { on := 17, ground := Ground.phase }], guard := none }) (v := ?_) rfl (by kernel_rfl) (by kernel_rfl) (by kernel_rfl) (fun _ _ _ h => h) (Or.inl ⟨by kernel_rfl, ?_⟩) hHeld ?_
      rotate_left
      · (intro w hSw; (try dsimp only at hSw); go_simp); try with_reducible rfl
      try simp only [Act.put, List.setIfInBounds_toArray, List.set_cons_zero, List.set_cons_succ]
      refine wpAnyH_done (by kernel_rfl) ?_ _
      clear hHeld HBAq0 HBAq1 HWB HIB HIB2 HOB2 HSB2
      have HBA2 := hide (show BA w q2 b5 b7 ((j : Int) + 1) ((j : Int) + 1) (withB La (g j)) (withB Lb (g m)) from ⟨HROq.out, HRNq.out, HRBq.out⟩)
      clear HRNq HROq HRBq HRNp HROp HRBp
      go_wp2_with fail
      go_roundw
      case rel =>
        refine ⟨j + 1, withB La (g j), withB Lb (g m), by omega, by go_num, by rw [withB_length]; exact hLa, by rw [withB_length]; exact hLb, fun k => ?_, fun k => ?_, ?_⟩
        · rw [withB_has La (g j) k (by omega), HSA.out, seen_next]
        · rw [withB_has Lb (g m) k (by omega), HSB.out, seen_next, HM.out]
        · have := HBA2.out
          rwa [show ((j : Int) + 1) = ((j + 1 : Nat) : Int) by omega] at this
      case measure => simp [intOf]; omega
    · obtain rfl : j = n := by omega
      have HEQ := hide (badL_same Lb La 40 (fun k _ => by
        rw [HSA.out, HSB.out]
        by_cases h0 : j = 0
        · subst h0; rfl
        · exact (seen_turn g j t k (by omega)).symm))
      have HLA := hide (fun W => list_any (j : Int) 40 (by omega) La hLa W)
      have HLB := hide (fun W => list_any (j : Int) 40 (by omega) Lb hLb W)
      rw [HEQ.out] at HLB
      have HVA := hide (fun W => version_any (j : Int) 40 La hLa W)
      have HVB := hide (fun W => version_any (j : Int) 40 Lb hLb W)
      have HRI := hide (fun i h0 hi => badL_rise La 40 i h0 hi)
      have hll := badL_le La 40
      have hwu : IntKind.u64.wrap (j : Int) = (j : Int) := wraps_u64 _ (by omega) (by omega)
      have HIA := hide (bbt_info (j : Int) 40 La hLa)
      have HIB := hide (bbt_info (j : Int) 40 Lb hLb)
      generalize badL La 40 = L at *
      clear HSA HSB HEQ hba hLa hLb
      go_upto_region 15 with (fail)
      go_cut [12, 13] from 78 to 81 (fun s12 s13 wx => ∃ (a1 a2 : Option Addr) (c1 c2 : Nat), s12 = .slice a1 L.length c1 ∧ s13 = .slice a2 L.length c2 ∧ BA w wx b5 b7 j j La Lb ∧ RowI wx a1 L ∧ RowI wx a2 L)
      case first =>
        have HBv0 := hide (show BA w wr.drew b5 b7 j j La Lb from ⟨HBA.out.a, HBA.out.b, HBA.out.below.drew⟩)
        refine wp_region_held_drew (S := (fun _ => True)) (by kernel_rfl) (trivial) (fun hHeld => ?_)
        generalize wr.drew = v0 at *
        refine wpAnyH_ready (rs := [0, 2]) (by kernel_rfl) (by simp) (AllReadyH.cons (o := { dst := some 78, op := Op.load 26 (Operand.tmp 5), type := 26, pos := "law.go:134", after := #[], guard := none }) rfl (fun K hK => ?_) (AllReadyH.cons (o := { dst := some 80, op := Op.load 26 (Operand.tmp 7), type := 26, pos := "law.go:134", after := #[], guard := none }) rfl (fun K hK => ?_) AllReadyH.nil))
        · have hOld := hide hHeld
          clear hHeld
          refine wp_load_row 26 (.tmp 5) rfl b5 rfl 26 _ (0, 0) _ HBv0.out.a Try.underlying26 rfl HIA.out ?_
          refine hK.out _ _ (trivial) (fun hHeld => ?_)
          clear hK K hOld
          try simp only [Act.put, List.setIfInBounds_toArray, List.set_cons_zero, List.set_cons_succ]
          refine wpAnyH_ready (rs := [1, 2]) (by kernel_rfl) (by simp) (AllReadyH.cons (o := { dst := some 79, op := Op.call { callee := Callee.value (Operand.func 15), args := #[Operand.tmp 78], argTypes := #[26] }, type := 22, pos := "law.go:134", after := #[{ on := 0, ground := Ground.data }], guard := none }) rfl (fun K hK => ?_) (AllReadyH.cons (o := { dst := some 80, op := Op.load 26 (Operand.tmp 7), type := 26, pos := "law.go:134", after := #[], guard := none }) rfl (fun K hK => ?_) AllReadyH.nil))
          · have hOld := hide hHeld
            clear hHeld
            go_simp
            refine (HLA.out _).mono ?_
            rintro e v1 ⟨a1, c1, rfl, ho, hb⟩
            have HBv1 := hide (HBv0.out.kept hb)
            have HR1 := hide (RowI.of ho)
            clear ho hb
            (try go_wp2_with fail)
            refine hK.out _ _ (trivial) (fun hHeld => ?_)
            clear hK K hOld
            try simp only [Act.put, List.setIfInBounds_toArray, List.set_cons_zero, List.set_cons_succ]
            refine wpAnyH_ready (rs := [2]) (by kernel_rfl) (by simp) (AllReadyH.cons (o := { dst := some 80, op := Op.load 26 (Operand.tmp 7), type := 26, pos := "law.go:134", after := #[], guard := none }) rfl (fun K hK => ?_) AllReadyH.nil)
            have hOld := hide hHeld
            clear hHeld
            refine wp_load_row 26 (.tmp 7) rfl b7 rfl 26 _ (0, 0) _ HBv1.out.b Try.underlying26 rfl HIB.out ?_
            refine hK.out _ _ (trivial) (fun hHeld => ?_)
            clear hK K hOld
            try simp only [Act.put, List.setIfInBounds_toArray, List.set_cons_zero, List.set_cons_succ]
            refine wpAnyH_ready (rs := [3]) (by kernel_rfl) (by simp) (AllReadyH.cons (o := { dst := some 81, op := Op.call { callee := Callee.value (Operand.func 15), args := #[Operand.tmp 80], argTypes := #[26] }, type := 22, pos := "law.go:134", after := #[{ on := 2, ground := Ground.data }, { on := 1, ground := Ground.chain }], guard := none }) rfl (fun K hK => ?_) AllReadyH.nil)
            have hOld := hide hHeld
            clear hHeld
            go_simp
            refine (HLB.out _).mono ?_
            rintro e v3 ⟨a2, c2, rfl, ho, hb⟩
            have HBv3 := hide (HBv1.out.kept hb)
            have HR2 := hide (RowI.of ho)
            have HR1b := hide (HR1.out.kept hb)
            clear ho hb
            (try go_wp2_with fail)
            refine hK.out _ _ (trivial) (fun hHeld => ?_)
            clear hK K hOld
            try simp only [Act.put, List.setIfInBounds_toArray, List.set_cons_zero, List.set_cons_succ]
            refine wpAnyH_take (i := 4) (oi := { dst := some 12, op := Op.assign (Operand.tmp 79), type := 22, pos := "law.go:134", after := #[{ on := 1, ground := Ground.data }, { on := 3, ground := Ground.chain }, { on := 0, ground := Ground.phase }, { on := 1, ground := Ground.phase }, { on := 2, ground := Ground.textOnly Departure.lateStores }, { on := 3, ground := Ground.textOnly Departure.lateStoresUnsure }], guard := none }) (v := ?_) rfl (by kernel_rfl) (by kernel_rfl) (by kernel_rfl) (fun _ _ _ h => h) (Or.inl ⟨by kernel_rfl, ?_⟩) hHeld ?_
            rotate_left
            · (intro w hSw; (try dsimp only at hSw); go_simp); try with_reducible rfl
            try simp only [Act.put, List.setIfInBounds_toArray, List.set_cons_zero, List.set_cons_succ]
            refine wpAnyH_take (i := 5) (oi := { dst := some 13, op := Op.assign (Operand.tmp 81), type := 22, pos := "law.go:134", after := #[{ on := 3, ground := Ground.data }, { on := 4, ground := Ground.chain }, { on := 0, ground := Ground.phase }, { on := 1, ground := Ground.phase }, { on := 2, ground := Ground.phase }, { on := 3, ground := Ground.phase }, { on := 4, ground := Ground.phase }], guard := none }) (v := ?_) rfl (by kernel_rfl) (by kernel_rfl) (by kernel_rfl) (fun _ _ _ h => h) (Or.inl ⟨by kernel_rfl, ?_⟩) hHeld ?_
            rotate_left
            · (intro w hSw; (try dsimp only at hSw); go_simp); try with_reducible rfl
            try simp only [Act.put, List.setIfInBounds_toArray, List.set_cons_zero, List.set_cons_succ]
            refine wpAnyH_done (by kernel_rfl) ?_ _
            go_wp2_with fail
            go_meet
            exact ⟨a1, a2, c1, c2, rfl, rfl, HBv3.out, HR1b.out, HR2.out⟩
          · have hOld := hide hHeld
            clear hHeld
            refine wp_load_row 26 (.tmp 7) rfl b7 rfl 26 _ (0, 0) _ HBv0.out.b Try.underlying26 rfl HIB.out ?_
            refine hK.out _ _ (trivial) (fun hHeld => ?_)
            clear hK K hOld
            try simp only [Act.put, List.setIfInBounds_toArray, List.set_cons_zero, List.set_cons_succ]
            refine wpAnyH_ready (rs := [1]) (by kernel_rfl) (by simp) (AllReadyH.cons (o := { dst := some 79, op := Op.call { callee := Callee.value (Operand.func 15), args := #[Operand.tmp 78], argTypes := #[26] }, type := 22, pos := "law.go:134", after := #[{ on := 0, ground := Ground.data }], guard := none }) rfl (fun K hK => ?_) AllReadyH.nil)
            have hOld := hide hHeld
            clear hHeld
            go_simp
            refine (HLA.out _).mono ?_
            rintro e v1 ⟨a1, c1, rfl, ho, hb⟩
            have HBv1 := hide (HBv0.out.kept hb)
            have HR1 := hide (RowI.of ho)
            clear ho hb
            (try go_wp2_with fail)
            refine hK.out _ _ (trivial) (fun hHeld => ?_)
            clear hK K hOld
            try simp only [Act.put, List.setIfInBounds_toArray, List.set_cons_zero, List.set_cons_succ]
            refine wpAnyH_ready (rs := [3]) (by kernel_rfl) (by simp) (AllReadyH.cons (o := { dst := some 81, op := Op.call { callee := Callee.value (Operand.func 15), args := #[Operand.tmp 80], argTypes := #[26] }, type := 22, pos := "law.go:134", after := #[{ on := 2, ground := Ground.data }, { on := 1, ground := Ground.chain }], guard := none }) rfl (fun K hK => ?_) AllReadyH.nil)
            have hOld := hide hHeld
            clear hHeld
            go_simp
            refine (HLB.out _).mono ?_
            rintro e v3 ⟨a2, c2, rfl, ho, hb⟩
            have HBv3 := hide (HBv1.out.kept hb)
            have HR2 := hide (RowI.of ho)
            have HR1b := hide (HR1.out.kept hb)
            clear ho hb
            (try go_wp2_with fail)
            refine hK.out _ _ (trivial) (fun hHeld => ?_)
            clear hK K hOld
            try simp only [Act.put, List.setIfInBounds_toArray, List.set_cons_zero, List.set_cons_succ]
            refine wpAnyH_take (i := 4) (oi := { dst := some 12, op := Op.assign (Operand.tmp 79), type := 22, pos := "law.go:134", after := #[{ on := 1, ground := Ground.data }, { on := 3, ground := Ground.chain }, { on := 0, ground := Ground.phase }, { on := 1, ground := Ground.phase }, { on := 2, ground := Ground.textOnly Departure.lateStores }, { on := 3, ground := Ground.textOnly Departure.lateStoresUnsure }], guard := none }) (v := ?_) rfl (by kernel_rfl) (by kernel_rfl) (by kernel_rfl) (fun _ _ _ h => h) (Or.inl ⟨by kernel_rfl, ?_⟩) hHeld ?_
            rotate_left
            · (intro w hSw; (try dsimp only at hSw); go_simp); try with_reducible rfl
            try simp only [Act.put, List.setIfInBounds_toArray, List.set_cons_zero, List.set_cons_succ]
            refine wpAnyH_take (i := 5) (oi := { dst := some 13, op := Op.assign (Operand.tmp 81), type := 22, pos := "law.go:134", after := #[{ on := 3, ground := Ground.data }, { on := 4, ground := Ground.chain }, { on := 0, ground := Ground.phase }, { on := 1, ground := Ground.phase }, { on := 2, ground := Ground.phase }, { on := 3, ground := Ground.phase }, { on := 4, ground := Ground.phase }], guard := none }) (v := ?_) rfl (by kernel_rfl) (by kernel_rfl) (by kernel_rfl) (fun _ _ _ h => h) (Or.inl ⟨by kernel_rfl, ?_⟩) hHeld ?_
            rotate_left
            · (intro w hSw; (try dsimp only at hSw); go_simp); try with_reducible rfl
            try simp only [Act.put, List.setIfInBounds_toArray, List.set_cons_zero, List.set_cons_succ]
            refine wpAnyH_done (by kernel_rfl) ?_ _
            go_wp2_with fail
            go_meet
            exact ⟨a1, a2, c1, c2, rfl, rfl, HBv3.out, HR1b.out, HR2.out⟩
        · have hOld := hide hHeld
          clear hHeld
          refine wp_load_row 26 (.tmp 7) rfl b7 rfl 26 _ (0, 0) _ HBv0.out.b Try.underlying26 rfl HIB.out ?_
          refine hK.out _ _ (trivial) (fun hHeld => ?_)
          clear hK K hOld
          try simp only [Act.put, List.setIfInBounds_toArray, List.set_cons_zero, List.set_cons_succ]
          refine wpAnyH_ready (rs := [0]) (by kernel_rfl) (by simp) (AllReadyH.cons (o := { dst := some 78, op := Op.load 26 (Operand.tmp 5), type := 26, pos := "law.go:134", after := #[], guard := none }) rfl (fun K hK => ?_) AllReadyH.nil)
          have hOld := hide hHeld
          clear hHeld
          refine wp_load_row 26 (.tmp 5) rfl b5 rfl 26 _ (0, 0) _ HBv0.out.a Try.underlying26 rfl HIA.out ?_
          refine hK.out _ _ (trivial) (fun hHeld => ?_)
          clear hK K hOld
          try simp only [Act.put, List.setIfInBounds_toArray, List.set_cons_zero, List.set_cons_succ]
          refine wpAnyH_ready (rs := [1]) (by kernel_rfl) (by simp) (AllReadyH.cons (o := { dst := some 79, op := Op.call { callee := Callee.value (Operand.func 15), args := #[Operand.tmp 78], argTypes := #[26] }, type := 22, pos := "law.go:134", after := #[{ on := 0, ground := Ground.data }], guard := none }) rfl (fun K hK => ?_) AllReadyH.nil)
          have hOld := hide hHeld
          clear hHeld
          go_simp
          refine (HLA.out _).mono ?_
          rintro e v1 ⟨a1, c1, rfl, ho, hb⟩
          have HBv1 := hide (HBv0.out.kept hb)
          have HR1 := hide (RowI.of ho)
          clear ho hb
          (try go_wp2_with fail)
          refine hK.out _ _ (trivial) (fun hHeld => ?_)
          clear hK K hOld
          try simp only [Act.put, List.setIfInBounds_toArray, List.set_cons_zero, List.set_cons_succ]
          refine wpAnyH_ready (rs := [3]) (by kernel_rfl) (by simp) (AllReadyH.cons (o := { dst := some 81, op := Op.call { callee := Callee.value (Operand.func 15), args := #[Operand.tmp 80], argTypes := #[26] }, type := 22, pos := "law.go:134", after := #[{ on := 2, ground := Ground.data }, { on := 1, ground := Ground.chain }], guard := none }) rfl (fun K hK => ?_) AllReadyH.nil)
          have hOld := hide hHeld
          clear hHeld
          go_simp
          refine (HLB.out _).mono ?_
          rintro e v3 ⟨a2, c2, rfl, ho, hb⟩
          have HBv3 := hide (HBv1.out.kept hb)
          have HR2 := hide (RowI.of ho)
          have HR1b := hide (HR1.out.kept hb)
          clear ho hb
          (try go_wp2_with fail)
          refine hK.out _ _ (trivial) (fun hHeld => ?_)
          clear hK K hOld
          try simp only [Act.put, List.setIfInBounds_toArray, List.set_cons_zero, List.set_cons_succ]
          refine wpAnyH_take (i := 4) (oi := { dst := some 12, op := Op.assign (Operand.tmp 79), type := 22, pos := "law.go:134", after := #[{ on := 1, ground := Ground.data }, { on := 3, ground := Ground.chain }, { on := 0, ground := Ground.phase }, { on := 1, ground := Ground.phase }, { on := 2, ground := Ground.textOnly Departure.lateStores }, { on := 3, ground := Ground.textOnly Departure.lateStoresUnsure }], guard := none }) (v := ?_) rfl (by kernel_rfl) (by kernel_rfl) (by kernel_rfl) (fun _ _ _ h => h) (Or.inl ⟨by kernel_rfl, ?_⟩) hHeld ?_
          rotate_left
          · (intro w hSw; (try dsimp only at hSw); go_simp); try with_reducible rfl
          try simp only [Act.put, List.setIfInBounds_toArray, List.set_cons_zero, List.set_cons_succ]
          refine wpAnyH_take (i := 5) (oi := { dst := some 13, op := Op.assign (Operand.tmp 81), type := 22, pos := "law.go:134", after := #[{ on := 3, ground := Ground.data }, { on := 4, ground := Ground.chain }, { on := 0, ground := Ground.phase }, { on := 1, ground := Ground.phase }, { on := 2, ground := Ground.phase }, { on := 3, ground := Ground.phase }, { on := 4, ground := Ground.phase }], guard := none }) (v := ?_) rfl (by kernel_rfl) (by kernel_rfl) (by kernel_rfl) (fun _ _ _ h => h) (Or.inl ⟨by kernel_rfl, ?_⟩) hHeld ?_
          rotate_left
          · (intro w hSw; (try dsimp only at hSw); go_simp); try with_reducible rfl
          try simp only [Act.put, List.setIfInBounds_toArray, List.set_cons_zero, List.set_cons_succ]
          refine wpAnyH_done (by kernel_rfl) ?_ _
          go_wp2_with fail
          go_meet
          exact ⟨a1, a2, c1, c2, rfl, rfl, HBv3.out, HR1b.out, HR2.out⟩
      case rest =>
        obtain ⟨a1, a2, c1, c2, rfl, rfl, hba, hr1, hr2⟩ := hcut
        have HBA := hide hba
        have HR1 := hide hr1
        have HR2 := hide hr2
        clear hba hr1 hr2 HLA HLB
        go_upto_region 16 with (fail)
        go_cut [101] from 82 to 101 (fun s wx => s = .bool false ∧ BA w wx b5 b7 j j La Lb ∧ RowI wx a1 L ∧ RowI wx a2 L)
        case first =>
          have HBv0 := hide (show BA w wc.drew b5 b7 j j La Lb from ⟨HBA.out.a, HBA.out.b, HBA.out.below.drew⟩)
          have HRv0 := hide (show RowI wc.drew a1 L from HR1.out)
          have HSv0 := hide (show RowI wc.drew a2 L from HR2.out)
          refine wp_region_held_drew (S := (fun _ => True)) (by kernel_rfl) (trivial) (fun hHeld => ?_)
          generalize wc.drew = v0 at *
          refine wpAnyH_take (i := 0) (oi := { dst := some 82, op := Op.move (Operand.tmp 12), type := 22, pos := "law.go:135", after := #[], guard := none }) (v := ?_) rfl (by kernel_rfl) (by kernel_rfl) (by kernel_rfl) (fun _ _ _ h => h) (Or.inl ⟨by kernel_rfl, ?_⟩) hHeld ?_
          rotate_left
          · (intro w hSw; (try dsimp only at hSw); go_simp); try with_reducible rfl
          try simp only [Act.put, List.setIfInBounds_toArray, List.set_cons_zero, List.set_cons_succ]
          refine wpAnyH_take (i := 1) (oi := { dst := some 83, op := Op.call { callee := Callee.builtin Builtin.len, args := #[Operand.tmp 82], argTypes := #[22] }, type := 3, pos := "law.go:135", after := #[{ on := 0, ground := Ground.data }], guard := none }) (v := ?_) rfl (by kernel_rfl) (by kernel_rfl) (by kernel_rfl) (fun _ _ _ h => h) (Or.inl ⟨by kernel_rfl, ?_⟩) hHeld ?_
          rotate_left
          · (intro w hSw; (try dsimp only at hSw); go_simp); try with_reducible rfl
          try simp only [Act.put, List.setIfInBounds_toArray, List.set_cons_zero, List.set_cons_succ]
          refine wpAnyH_take (i := 2) (oi := { dst := some 84, op := Op.move (Operand.tmp 13), type := 22, pos := "law.go:135", after := #[], guard := none }) (v := ?_) rfl (by kernel_rfl) (by kernel_rfl) (by kernel_rfl) (fun _ _ _ h => h) (Or.inl ⟨by kernel_rfl, ?_⟩) hHeld ?_
          rotate_left
          · (intro w hSw; (try dsimp only at hSw); go_simp); try with_reducible rfl
          try simp only [Act.put, List.setIfInBounds_toArray, List.set_cons_zero, List.set_cons_succ]
          refine wpAnyH_take (i := 3) (oi := { dst := some 85, op := Op.call { callee := Callee.builtin Builtin.len, args := #[Operand.tmp 84], argTypes := #[22] }, type := 3, pos := "law.go:135", after := #[{ on := 2, ground := Ground.data }], guard := none }) (v := ?_) rfl (by kernel_rfl) (by kernel_rfl) (by kernel_rfl) (fun _ _ _ h => h) (Or.inl ⟨by kernel_rfl, ?_⟩) hHeld ?_
          rotate_left
          · (intro w hSw; (try dsimp only at hSw); go_simp); try with_reducible rfl
          try simp only [Act.put, List.setIfInBounds_toArray, List.set_cons_zero, List.set_cons_succ]
          refine wpAnyH_take (i := 4) (oi := { dst := some 86, op := Op.binOp BinOp.neq 3 (Operand.tmp 83) (Operand.tmp 85) 3, type := 4, pos := "law.go:135", after := #[{ on := 1, ground := Ground.data }, { on := 3, ground := Ground.data }], guard := none }) (v := ?_) rfl (by kernel_rfl) (by kernel_rfl) (by kernel_rfl) (fun _ _ _ h => h) (Or.inl ⟨by kernel_rfl, ?_⟩) hHeld ?_
          rotate_left
          · (intro w hSw; (try dsimp only at hSw); go_simp); try with_reducible rfl
          try simp only [Act.put, List.setIfInBounds_toArray, List.set_cons_zero, List.set_cons_succ]
          refine wpAnyH_take (i := 5) (oi := { dst := some 87, op := Op.move (Operand.tmp 86), type := 4, pos := "law.go:135", after := #[{ on := 4, ground := Ground.data }], guard := none }) (v := ?_) rfl (by kernel_rfl) (by kernel_rfl) (by kernel_rfl) (fun _ _ _ h => h) (Or.inl ⟨by kernel_rfl, ?_⟩) hHeld ?_
          rotate_left
          · (intro w hSw; (try dsimp only at hSw); go_simp); try with_reducible rfl
          try simp only [Act.put, List.setIfInBounds_toArray, List.set_cons_zero, List.set_cons_succ]
          refine wpAnyH_take (i := 8) (oi := { dst := some 90, op := Op.move (Operand.tmp 0), type := 39, pos := "law.go:135", after := #[{ on := 5, ground := Ground.guard }], guard := some (5, false) }) (v := ?_) rfl (by kernel_rfl) (by kernel_rfl) (by kernel_rfl) (fun _ _ _ h => h) (Or.inl ⟨by kernel_rfl, ?_⟩) hHeld ?_
          rotate_left
          · (intro w hSw; (try dsimp only at hSw); go_simp); try with_reducible rfl
          try simp only [Act.put, List.setIfInBounds_toArray, List.set_cons_zero, List.set_cons_succ]
          refine wpAnyH_take (i := 9) (oi := { dst := some 91, op := Op.call { callee := Callee.builtin Builtin.len, args := #[Operand.tmp 90], argTypes := #[39] }, type := 3, pos := "law.go:135", after := #[{ on := 8, ground := Ground.data }, { on := 5, ground := Ground.guard }], guard := some (5, false) }) (v := ?_) rfl (by kernel_rfl) (by kernel_rfl) (by kernel_rfl) (fun _ _ _ h => h) (Or.inl ⟨by kernel_rfl, ?_⟩) hHeld ?_
          rotate_left
          · (intro w hSw; (try dsimp only at hSw); go_simp); try with_reducible rfl
          try simp only [Act.put, List.setIfInBounds_toArray, List.set_cons_zero, List.set_cons_succ]
          refine wpAnyH_take (i := 10) (oi := { dst := some 92, op := Op.convert 3 23 (Operand.tmp 91), type := 23, pos := "law.go:135", after := #[{ on := 9, ground := Ground.data }, { on := 5, ground := Ground.guard }], guard := some (5, false) }) (v := ?_) rfl (by kernel_rfl) (by kernel_rfl) (by kernel_rfl) (fun _ _ _ h => h) (Or.inl ⟨by kernel_rfl, ?_⟩) hHeld ?_
          rotate_left
          · (intro w hSw; (try dsimp only at hSw); go_simp); try with_reducible rfl
          try simp only [Act.put, List.setIfInBounds_toArray, List.set_cons_zero, List.set_cons_succ]
          refine wpAnyH_ready (rs := [6]) (by kernel_rfl) (by simp) (AllReadyH.cons (o := { dst := some 88, op := Op.load 26 (Operand.tmp 5), type := 26, pos := "law.go:135", after := #[{ on := 5, ground := Ground.guard }], guard := some (5, false) }) rfl (fun K hK => ?_) AllReadyH.nil)
          have hOld := hide hHeld
          clear hHeld
          refine wp_load_row 26 (.tmp 5) rfl b5 rfl 26 _ (0, 0) _ HBv0.out.a Try.underlying26 rfl HIA.out ?_
          refine hK.out _ _ (trivial) (fun hHeld => ?_)
          clear hK K hOld
          try simp only [Act.put, List.setIfInBounds_toArray, List.set_cons_zero, List.set_cons_succ]
          refine wpAnyH_ready (rs := [7]) (by kernel_rfl) (by simp) (AllReadyH.cons (o := { dst := some 89, op := Op.call { callee := Callee.value (Operand.func 14), args := #[Operand.tmp 88], argTypes := #[26] }, type := 23, pos := "law.go:135", after := #[{ on := 6, ground := Ground.data }, { on := 5, ground := Ground.chain }, { on := 5, ground := Ground.guard }], guard := some (5, false) }) rfl (fun K hK => ?_) AllReadyH.nil)
          have hOld := hide hHeld
          clear hHeld
          go_simp
          refine (HVA.out _).mono ?_
          rintro e v7 ⟨rfl, hb⟩
          have HBv7 := hide (HBv0.out.kept hb)
          have HRv7 := hide (HRv0.out.kept hb)
          have HSv7 := hide (HSv0.out.kept hb)
          clear hb
          (try go_wp2_with fail)
          refine hK.out _ _ (trivial) (fun hHeld => ?_)
          clear hK K hOld
          try simp only [Act.put, List.setIfInBounds_toArray, List.set_cons_zero, List.set_cons_succ]
          refine wpAnyH_take (i := 11) (oi := { dst := some 93, op := Op.binOp BinOp.neq 23 (Operand.tmp 89) (Operand.tmp 92) 23, type := 4, pos := "law.go:135", after := #[{ on := 7, ground := Ground.data }, { on := 10, ground := Ground.data }, { on := 5, ground := Ground.guard }], guard := some (5, false) }) (v := ?_) rfl (by kernel_rfl) (by kernel_rfl) (by kernel_rfl) (fun _ _ _ h => h) (Or.inl ⟨by kernel_rfl, ?_⟩) hHeld ?_
          rotate_left
          · (intro w hSw; (try dsimp only at hSw); go_simp); try with_reducible rfl
          try simp only [Act.put, List.setIfInBounds_toArray, List.set_cons_zero, List.set_cons_succ]
          refine wpAnyH_take (i := 12) (oi := { dst := some 94, op := Op.pick (Operand.tmp 87) (Operand.const (Value.bool true)) (Operand.tmp 93), type := 4, pos := "law.go:135", after := #[{ on := 5, ground := Ground.data }, { on := 11, ground := Ground.data }], guard := none }) (v := ?_) rfl (by kernel_rfl) (by kernel_rfl) (by kernel_rfl) (fun _ _ _ h => h) (Or.inl ⟨by kernel_rfl, ?_⟩) hHeld ?_
          rotate_left
          · (intro w hSw; (try dsimp only at hSw); go_simp); try with_reducible rfl
          try simp only [Act.put, List.setIfInBounds_toArray, List.set_cons_zero, List.set_cons_succ]
          refine wpAnyH_take (i := 13) (oi := { dst := some 95, op := Op.move (Operand.tmp 94), type := 4, pos := "law.go:135", after := #[{ on := 12, ground := Ground.data }, { on := 7, ground := Ground.chain }], guard := none }) (v := ?_) rfl (by kernel_rfl) (by kernel_rfl) (by kernel_rfl) (fun _ _ _ h => h) (Or.inl ⟨by kernel_rfl, ?_⟩) hHeld ?_
          rotate_left
          · (intro w hSw; (try dsimp only at hSw); go_simp); try with_reducible rfl
          try simp only [Act.put, List.setIfInBounds_toArray, List.set_cons_zero, List.set_cons_succ]
          refine wpAnyH_ready (rs := [14, 16]) (by kernel_rfl) (by simp) (AllReadyH.cons (o := { dst := some 96, op := Op.load 26 (Operand.tmp 7), type := 26, pos := "law.go:135", after := #[{ on := 13, ground := Ground.guard }], guard := some (13, false) }) rfl (fun K hK => ?_) (AllReadyH.cons (o := { dst := some 98, op := Op.load 26 (Operand.tmp 5), type := 26, pos := "law.go:135", after := #[{ on := 13, ground := Ground.guard }], guard := some (13, false) }) rfl (fun K hK => ?_) AllReadyH.nil))
          · have hOld := hide hHeld
            clear hHeld
            refine wp_load_row 26 (.tmp 7) rfl b7 rfl 26 _ (0, 0) _ HBv7.out.b Try.underlying26 rfl HIB.out ?_
            refine hK.out _ _ (trivial) (fun hHeld => ?_)
            clear hK K hOld
            try simp only [Act.put, List.setIfInBounds_toArray, List.set_cons_zero, List.set_cons_succ]
            refine wpAnyH_ready (rs := [15, 16]) (by kernel_rfl) (by simp) (AllReadyH.cons (o := { dst := some 97, op := Op.call { callee := Callee.value (Operand.func 14), args := #[Operand.tmp 96], argTypes := #[26] }, type := 23, pos := "law.go:135", after := #[{ on := 14, ground := Ground.data }, { on := 13, ground := Ground.chain }, { on := 13, ground := Ground.guard }], guard := some (13, false) }) rfl (fun K hK => ?_) (AllReadyH.cons (o := { dst := some 98, op := Op.load 26 (Operand.tmp 5), type := 26, pos := "law.go:135", after := #[{ on := 13, ground := Ground.guard }], guard := some (13, false) }) rfl (fun K hK => ?_) AllReadyH.nil))
            · have hOld := hide hHeld
              clear hHeld
              go_simp
              refine (HVB.out _).mono ?_
              rintro e v15 ⟨rfl, hb⟩
              have HBv15 := hide (HBv7.out.kept hb)
              have HRv15 := hide (HRv7.out.kept hb)
              have HSv15 := hide (HSv7.out.kept hb)
              clear hb
              (try go_wp2_with fail)
              refine hK.out _ _ (trivial) (fun hHeld => ?_)
              clear hK K hOld
              try simp only [Act.put, List.setIfInBounds_toArray, List.set_cons_zero, List.set_cons_succ]
              refine wpAnyH_ready (rs := [16]) (by kernel_rfl) (by simp) (AllReadyH.cons (o := { dst := some 98, op := Op.load 26 (Operand.tmp 5), type := 26, pos := "law.go:135", after := #[{ on := 13, ground := Ground.guard }], guard := some (13, false) }) rfl (fun K hK => ?_) AllReadyH.nil)
              have hOld := hide hHeld
              clear hHeld
              refine wp_load_row 26 (.tmp 5) rfl b5 rfl 26 _ (0, 0) _ HBv15.out.a Try.underlying26 rfl HIA.out ?_
              refine hK.out _ _ (trivial) (fun hHeld => ?_)
              clear hK K hOld
              try simp only [Act.put, List.setIfInBounds_toArray, List.set_cons_zero, List.set_cons_succ]
              refine wpAnyH_ready (rs := [17]) (by kernel_rfl) (by simp) (AllReadyH.cons (o := { dst := some 99, op := Op.call { callee := Callee.value (Operand.func 14), args := #[Operand.tmp 98], argTypes := #[26] }, type := 23, pos := "law.go:135", after := #[{ on := 16, ground := Ground.data }, { on := 15, ground := Ground.chain }, { on := 13, ground := Ground.guard }], guard := some (13, false) }) rfl (fun K hK => ?_) AllReadyH.nil)
              have hOld := hide hHeld
              clear hHeld
              go_simp
              refine (HVA.out _).mono ?_
              rintro e v17 ⟨rfl, hb⟩
              have HBv17 := hide (HBv15.out.kept hb)
              have HRv17 := hide (HRv15.out.kept hb)
              have HSv17 := hide (HSv15.out.kept hb)
              clear hb
              (try go_wp2_with fail)
              refine hK.out _ _ (trivial) (fun hHeld => ?_)
              clear hK K hOld
              try simp only [Act.put, List.setIfInBounds_toArray, List.set_cons_zero, List.set_cons_succ]
              refine wpAnyH_take (i := 18) (oi := { dst := some 100, op := Op.binOp BinOp.neq 23 (Operand.tmp 97) (Operand.tmp 99) 23, type := 4, pos := "law.go:135", after := #[{ on := 15, ground := Ground.data }, { on := 17, ground := Ground.data }, { on := 13, ground := Ground.guard }], guard := some (13, false) }) (v := ?_) rfl (by kernel_rfl) (by kernel_rfl) (by kernel_rfl) (fun _ _ _ h => h) (Or.inl ⟨by kernel_rfl, ?_⟩) hHeld ?_
              rotate_left
              · (intro w hSw; (try dsimp only at hSw); go_simp); try with_reducible rfl
              try simp only [Act.put, List.setIfInBounds_toArray, List.set_cons_zero, List.set_cons_succ]
              refine wpAnyH_take (i := 19) (oi := { dst := some 101, op := Op.pick (Operand.tmp 95) (Operand.const (Value.bool true)) (Operand.tmp 100), type := 4, pos := "law.go:135", after := #[{ on := 13, ground := Ground.data }, { on := 18, ground := Ground.data }], guard := none }) (v := ?_) rfl (by kernel_rfl) (by kernel_rfl) (by kernel_rfl) (fun _ _ _ h => h) (Or.inl ⟨by kernel_rfl, ?_⟩) hHeld ?_
              rotate_left
              · (intro w hSw; (try dsimp only at hSw); go_simp); try with_reducible rfl
              try simp only [Act.put, List.setIfInBounds_toArray, List.set_cons_zero, List.set_cons_succ]
              refine wpAnyH_done (by kernel_rfl) ?_ _
              go_wp2_with fail
              go_meet
              exact ⟨rfl, HBv17.out, HRv17.out, HSv17.out⟩
            · have hOld := hide hHeld
              clear hHeld
              refine wp_load_row 26 (.tmp 5) rfl b5 rfl 26 _ (0, 0) _ HBv7.out.a Try.underlying26 rfl HIA.out ?_
              refine hK.out _ _ (trivial) (fun hHeld => ?_)
              clear hK K hOld
              try simp only [Act.put, List.setIfInBounds_toArray, List.set_cons_zero, List.set_cons_succ]
              refine wpAnyH_ready (rs := [15]) (by kernel_rfl) (by simp) (AllReadyH.cons (o := { dst := some 97, op := Op.call { callee := Callee.value (Operand.func 14), args := #[Operand.tmp 96], argTypes := #[26] }, type := 23, pos := "law.go:135", after := #[{ on := 14, ground := Ground.data }, { on := 13, ground := Ground.chain }, { on := 13, ground := Ground.guard }], guard := some (13, false) }) rfl (fun K hK => ?_) AllReadyH.nil)
              have hOld := hide hHeld
              clear hHeld
              go_simp
              refine (HVB.out _).mono ?_
              rintro e v15 ⟨rfl, hb⟩
              have HBv15 := hide (HBv7.out.kept hb)
              have HRv15 := hide (HRv7.out.kept hb)
              have HSv15 := hide (HSv7.out.kept hb)
              clear hb
              (try go_wp2_with fail)
              refine hK.out _ _ (trivial) (fun hHeld => ?_)
              clear hK K hOld
              try simp only [Act.put, List.setIfInBounds_toArray, List.set_cons_zero, List.set_cons_succ]
              refine wpAnyH_ready (rs := [17]) (by kernel_rfl) (by simp) (AllReadyH.cons (o := { dst := some 99, op := Op.call { callee := Callee.value (Operand.func 14), args := #[Operand.tmp 98], argTypes := #[26] }, type := 23, pos := "law.go:135", after := #[{ on := 16, ground := Ground.data }, { on := 15, ground := Ground.chain }, { on := 13, ground := Ground.guard }], guard := some (13, false) }) rfl (fun K hK => ?_) AllReadyH.nil)
              have hOld := hide hHeld
              clear hHeld
              go_simp
              refine (HVA.out _).mono ?_
              rintro e v17 ⟨rfl, hb⟩
              have HBv17 := hide (HBv15.out.kept hb)
              have HRv17 := hide (HRv15.out.kept hb)
              have HSv17 := hide (HSv15.out.kept hb)
              clear hb
              (try go_wp2_with fail)
              refine hK.out _ _ (trivial) (fun hHeld => ?_)
              clear hK K hOld
              try simp only [Act.put, List.setIfInBounds_toArray, List.set_cons_zero, List.set_cons_succ]
              refine wpAnyH_take (i := 18) (oi := { dst := some 100, op := Op.binOp BinOp.neq 23 (Operand.tmp 97) (Operand.tmp 99) 23, type := 4, pos := "law.go:135", after := #[{ on := 15, ground := Ground.data }, { on := 17, ground := Ground.data }, { on := 13, ground := Ground.guard }], guard := some (13, false) }) (v := ?_) rfl (by kernel_rfl) (by kernel_rfl) (by kernel_rfl) (fun _ _ _ h => h) (Or.inl ⟨by kernel_rfl, ?_⟩) hHeld ?_
              rotate_left
              · (intro w hSw; (try dsimp only at hSw); go_simp); try with_reducible rfl
              try simp only [Act.put, List.setIfInBounds_toArray, List.set_cons_zero, List.set_cons_succ]
              refine wpAnyH_take (i := 19) (oi := { dst := some 101, op := Op.pick (Operand.tmp 95) (Operand.const (Value.bool true)) (Operand.tmp 100), type := 4, pos := "law.go:135", after := #[{ on := 13, ground := Ground.data }, { on := 18, ground := Ground.data }], guard := none }) (v := ?_) rfl (by kernel_rfl) (by kernel_rfl) (by kernel_rfl) (fun _ _ _ h => h) (Or.inl ⟨by kernel_rfl, ?_⟩) hHeld ?_
              rotate_left
              · (intro w hSw; (try dsimp only at hSw); go_simp); try with_reducible rfl
              try simp only [Act.put, List.setIfInBounds_toArray, List.set_cons_zero, List.set_cons_succ]
              refine wpAnyH_done (by kernel_rfl) ?_ _
              go_wp2_with fail
              go_meet
              exact ⟨rfl, HBv17.out, HRv17.out, HSv17.out⟩
          · have hOld := hide hHeld
            clear hHeld
            refine wp_load_row 26 (.tmp 5) rfl b5 rfl 26 _ (0, 0) _ HBv7.out.a Try.underlying26 rfl HIA.out ?_
            refine hK.out _ _ (trivial) (fun hHeld => ?_)
            clear hK K hOld
            try simp only [Act.put, List.setIfInBounds_toArray, List.set_cons_zero, List.set_cons_succ]
            refine wpAnyH_ready (rs := [14]) (by kernel_rfl) (by simp) (AllReadyH.cons (o := { dst := some 96, op := Op.load 26 (Operand.tmp 7), type := 26, pos := "law.go:135", after := #[{ on := 13, ground := Ground.guard }], guard := some (13, false) }) rfl (fun K hK => ?_) AllReadyH.nil)
            have hOld := hide hHeld
            clear hHeld
            refine wp_load_row 26 (.tmp 7) rfl b7 rfl 26 _ (0, 0) _ HBv7.out.b Try.underlying26 rfl HIB.out ?_
            refine hK.out _ _ (trivial) (fun hHeld => ?_)
            clear hK K hOld
            try simp only [Act.put, List.setIfInBounds_toArray, List.set_cons_zero, List.set_cons_succ]
            refine wpAnyH_ready (rs := [15]) (by kernel_rfl) (by simp) (AllReadyH.cons (o := { dst := some 97, op := Op.call { callee := Callee.value (Operand.func 14), args := #[Operand.tmp 96], argTypes := #[26] }, type := 23, pos := "law.go:135", after := #[{ on := 14, ground := Ground.data }, { on := 13, ground := Ground.chain }, { on := 13, ground := Ground.guard }], guard := some (13, false) }) rfl (fun K hK => ?_) AllReadyH.nil)
            have hOld := hide hHeld
            clear hHeld
            go_simp
            refine (HVB.out _).mono ?_
            rintro e v15 ⟨rfl, hb⟩
            have HBv15 := hide (HBv7.out.kept hb)
            have HRv15 := hide (HRv7.out.kept hb)
            have HSv15 := hide (HSv7.out.kept hb)
            clear hb
            (try go_wp2_with fail)
            refine hK.out _ _ (trivial) (fun hHeld => ?_)
            clear hK K hOld
            try simp only [Act.put, List.setIfInBounds_toArray, List.set_cons_zero, List.set_cons_succ]
            refine wpAnyH_ready (rs := [17]) (by kernel_rfl) (by simp) (AllReadyH.cons (o := { dst := some 99, op := Op.call { callee := Callee.value (Operand.func 14), args := #[Operand.tmp 98], argTypes := #[26] }, type := 23, pos := "law.go:135", after := #[{ on := 16, ground := Ground.data }, { on := 15, ground := Ground.chain }, { on := 13, ground := Ground.guard }], guard := some (13, false) }) rfl (fun K hK => ?_) AllReadyH.nil)
            have hOld := hide hHeld
            clear hHeld
            go_simp
            refine (HVA.out _).mono ?_
            rintro e v17 ⟨rfl, hb⟩
            have HBv17 := hide (HBv15.out.kept hb)
            have HRv17 := hide (HRv15.out.kept hb)
            have HSv17 := hide (HSv15.out.kept hb)
            clear hb
            (try go_wp2_with fail)
            refine hK.out _ _ (trivial) (fun hHeld => ?_)
            clear hK K hOld
            try simp only [Act.put, List.setIfInBounds_toArray, List.set_cons_zero, List.set_cons_succ]
            refine wpAnyH_take (i := 18) (oi := { dst := some 100, op := Op.binOp BinOp.neq 23 (Operand.tmp 97) (Operand.tmp 99) 23, type := 4, pos := "law.go:135", after := #[{ on := 15, ground := Ground.data }, { on := 17, ground := Ground.data }, { on := 13, ground := Ground.guard }], guard := some (13, false) }) (v := ?_) rfl (by kernel_rfl) (by kernel_rfl) (by kernel_rfl) (fun _ _ _ h => h) (Or.inl ⟨by kernel_rfl, ?_⟩) hHeld ?_
            rotate_left
            · (intro w hSw; (try dsimp only at hSw); go_simp); try with_reducible rfl
            try simp only [Act.put, List.setIfInBounds_toArray, List.set_cons_zero, List.set_cons_succ]
            refine wpAnyH_take (i := 19) (oi := { dst := some 101, op := Op.pick (Operand.tmp 95) (Operand.const (Value.bool true)) (Operand.tmp 100), type := 4, pos := "law.go:135", after := #[{ on := 13, ground := Ground.data }, { on := 18, ground := Ground.data }], guard := none }) (v := ?_) rfl (by kernel_rfl) (by kernel_rfl) (by kernel_rfl) (fun _ _ _ h => h) (Or.inl ⟨by kernel_rfl, ?_⟩) hHeld ?_
            rotate_left
            · (intro w hSw; (try dsimp only at hSw); go_simp); try with_reducible rfl
            try simp only [Act.put, List.setIfInBounds_toArray, List.set_cons_zero, List.set_cons_succ]
            refine wpAnyH_done (by kernel_rfl) ?_ _
            go_wp2_with fail
            go_meet
            exact ⟨rfl, HBv17.out, HRv17.out, HSv17.out⟩
        case rest =>
          obtain ⟨rfl, hba, hr1, hr2⟩ := hcut
          have HBA := hide hba
          have HR1 := hide hr1
          have HR2 := hide hr2
          clear hba hr1 hr2 HVA HVB
          go_wp2_with fail
          go_loopw [104] (fun i W => ∃ c : Nat, c ≤ L.length ∧ i = .int .i64 c ∧ BA w W b5 b7 j j La Lb ∧ RowI W a1 L ∧ RowI W a2 L) (fun i _ => L.length - (intOf i).toNat)
          case atStart => exact ⟨0, by omega, rfl, HBA.out, HR1.out, HR2.out⟩
          case round =>
            clear HBA HR1 HR2
            obtain ⟨c, hc, rfl, hba, hr1, hr2⟩ := hrel
            have HBA := hide hba
            have HR1 := hide hr1
            have HR2 := hide hr2
            clear hba hr1 hr2
            by_cases hlc : c < L.length
            · obtain ⟨p1, rfl, p1l, q1⟩ := HR1.out c hlc
              obtain ⟨p2, rfl, p2l, q2⟩ := HR2.out c hlc
              by_cases h0 : c = 0
              · subst h0
                generalize L.getD 0 0 = x0 at *
                go_wp2_with fail
                go_quiet (fail)
                go_wp2_with fail
                go_roundw
                case rel => exact ⟨0 + 1, by omega, by go_num, ⟨HBA.out.a, HBA.out.b, HBA.out.below.drewN' _⟩, HR1.out, HR2.out⟩
                case measure => simp [intOf]; omega
              · obtain ⟨p1', hp1', -, q3⟩ := HR1.out (c - 1) (by omega)
                simp only [Option.some.injEq, Addr.mk.injEq, and_true] at hp1'
                subst hp1'
                have hrise := HRI.out c (by omega) hlc
                obtain ⟨c', rfl⟩ : ∃ c', c = c' + 1 := ⟨c - 1, by omega⟩
                rw [Nat.add_sub_cancel] at q3 hrise
                generalize L.getD (c' + 1) 0 = x1 at *
                generalize L.getD c' 0 = x2 at *
                have hle : ¬ x1 ≤ x2 := by omega
                have hci : ((c' + 1 : Nat) : Int) - 1 = (c' : Int) := by omega
                have hc0 : (0 : Int) < ((c' + 1 : Nat) : Int) := by omega
                have hlI : ((c' + 1 : Nat) : Int) < (L.length : Int) := by omega
                have hlI2 : (c' : Int) < (L.length : Int) := by omega
                have hc00 : (0 : Int) ≤ (c' : Int) := by omega
                go_wp2_with fail
                go_quiet (fail)
                go_wp2_with fail
                go_roundw
                case rel => exact ⟨c' + 1 + 1, by omega, by go_num, ⟨HBA.out.a, HBA.out.b, HBA.out.below.drewN' _⟩, HR1.out, HR2.out⟩
                case measure => simp [intOf]; omega
            · obtain rfl : c = L.length := by omega
              go_wp2_with fail
              go_ret
              exact ⟨rfl, HBA.out.below⟩
theorem bbtAny_all (v : Value) (w : World) (hv : ∃ zs : List Int, NumsAt w .u8 v zs ∧ (∀ z ∈ zs, (Lit.int .u8 z).wf = true) ∧ zs.length ≤ maxLen) (t : Int) (t0 : 0 ≤ t) (t1 : t ≤ 255) :
    Calls Try.prog 5 #[v, .int .u8 t] w fun e w' => e = .returned (.bool true) ∧ Below w.heap.size w w' := by
  obtain ⟨zs, hz, hw, hm⟩ := hv
  obtain ⟨a, cap, rfl, hc, hat⟩ := nums_at hz
  unfold maxLen at hm
  obtain ⟨t', rfl⟩ := Int.eq_ofNat_of_zero_le t0
  exact bbtAny_walk zs hw a cap hc (by omega) t' (by omega) w hat

set_option maxRecDepth 100000 in
theorem bbtAny_lifted (os : Os) (started : os.Started) (H : Type) (enc : TypeId × Value → H) :
    ReturnsInHanded {} Try.checked os 5 .any (Rows.bbtAnySpec.pre6 enc Try.prog Try.f5 Rows.bbtAnyRow.domain false) (Rows.bbtAnySpec.post enc Try.prog Try.f5 false true false false) := by
  refine returnsInHanded_of_change (C := Try.checked) own started (by kernel_rfl) Try.func5
    (ChangeSpec.witness6 (enc := enc) (C := Try.checked) false ⟨#[], #[.slice none 0 0, .int .u8 0], []⟩ 8 (by kernel_rfl) (by kernel_rfl) (by kernel_rfl) (by kernel_rfl)) ?_
  intro W base args ds gs before hval0 hW _ _
  have hval : ∀ (j : Nat) t v, Try.f5.params[j]? = some t → args[j]? = some v → Value.okWide Try.prog W .any base t v := hval0
  have hW' := hW
  obtain ⟨p, q, hA0, hV, rfl, hfz, hnd⟩ := hW
  have hA : DataW.TrodAll enc Try.prog W 0 (fun _ => true) true Try.f5.params.toList args.toList ds p := hA0
  rw [Try.params5] at hA hval
  obtain ⟨v0, vs0, d0, ds0, p0, q0, hargs, rfl, rfl, h0, r0⟩ := trodAll_cons hA
  obtain ⟨v1, vs1, d1, ds1, p1, q1, rfl, rfl, rfl, h1, r1⟩ := trodAll_cons r0
  obtain ⟨rfl, rfl, rfl⟩ := trodAll_nil r1
  obtain rfl : args = #[v0, v1] := by cases args; simp_all
  obtain ⟨rfl, rfl⟩ := trodVars_none hV
  have z0 := open_nums_slice Try.underlying39 Try.underlying5 (by kernel_rfl) (hval 0 39 v0 rfl rfl) h0
  obtain ⟨t, rfl, rfl, rfl, w1⟩ := open_int Try.underlying5 (hval 1 5 v1 rfl rfl) h1
  have z1 := wf_u8 w1
  clear hA0 hval0
  refine (bbtAny_all v0 W z0 t z1.1 z1.2).mono fun e W' ⟨he, hb⟩ => ?_
  subst he
  exact ⟨_, rfl, post_law laidOut (of_decide_eq_true (by kernel_rfl)) rfl rfl Try.underlying4 hW' ⟨rfl, rfl, rfl⟩ hb⟩

/-- THE STATEMENT -/
theorem bbtAny_holds : Rows.BbtAnySaid :=
  OpenClaim.holds_of_wide 5 Try.f5 rfl rfl rfl rfl rfl rfl rfl ⟨rfl, rfl, rfl, rfl, rfl⟩ rfl rfl rfl rfl rfl (by kernel_rfl) Try.func5 (by kernel_rfl)
    (of_decide_eq_true (by kernel_rfl)) (by unfold Func.isWrapper; first | (rw [if_pos (by decide +kernel)]; kernel_rfl) | (rw [if_neg (by decide +kernel)]; exact ⟨rfl, rfl⟩))
    (fun os started H enc _ => bbtAny_lifted os started H enc)

end Go.Proofs.Ytfphkldpjfackaa
