/-
  Layer 19: the law's records by contract.
-/
import Derived.Test.YtdjaldkjpmcbdaaRec3
import Derived.Lib.OwnKind
import Derived.Deep.CutRange
namespace Go.Proofs.Ytdjaldkjpmcbdaa
set_option linter.unusedSimpArgs false
set_option linter.unusedVariables false
open Go.RowKit Go.WideShapes Go.ChangeShapes Go.ChangeAt

theorem keep_unlike {w w' : World} {B e e' n n' m m' : Nat} {v v' : Value} {xs xs' : List Value} (h : w.ownsRow B e m v n xs) (h' : w.ownsRow B e' m' v' n' xs') (he : e ≠ e') (hg : w.grownBy w' v'.ownBlock) : w'.ownsRow B e m v n xs := by
  refine ⟨h.1, ?_⟩
  rcases h.2 with h3 | ⟨g, cap', cur, hv, hb, hh, h4⟩
  · exact .inl h3
  · refine .inr ⟨g, cap', cur, hv, hb, (hg.block g (heap_lt hh) fun hq => ?_).trans hh, h4⟩
    obtain ⟨c, fz, hc⟩ := Go.Lib.ownsRow_kind h' g hq.symm
    rw [hh] at hc
    simp only [Option.some.injEq, Obj.cells.injEq] at hc
    exact he hc.2.1
theorem keep_high {a b : World} {v : Value} {m k : Nat} {o : Obj} (hg : a.grownBy b v.ownBlock) (hl : ∀ j, v.ownBlock = some j → j < m) (hk : m ≤ k) (h : a.heap[k]? = some o) : b.heap[k]? = some o :=
  (hg.block k (heap_lt h) fun e => by have := hl k e.symm; omega).trans h
def cutR (r : Rc) : Rc := (r.1, r.2.take 2100)
def cutL (L : List Rc) : List Rc := (L.take 6).map cutR
theorem cutL_length (L : List Rc) : (cutL L).length = min L.length 6 := by simp [cutL]; omega
theorem cutL_next (L : List Rc) (j : Nat) (h : j < min L.length 6) : (cutL L).take (j + 1) = (cutL L).take j ++ [cutR (L.getD j rc0)] := by
  have hl : j < (cutL L).length := by rw [cutL_length]; exact h
  rw [List.take_succ_eq_append_getElem hl]
  congr 2
  have h1 : j < L.length := by omega
  simp [cutL, List.getD, h1]
theorem cutL_short (L : List Rc) : ∀ r ∈ cutL L, r.2.length ≤ 2100 := by
  intro r hr
  simp only [cutL, List.mem_map] at hr
  obtain ⟨x, -, rfl⟩ := hr
  simp [cutR]; omega
theorem cut_bs (l : List UInt8) (m : Nat) (h : m = min l.length 2100) : (bs l).extract 0 m = bs (l.take 2100) := by
  rw [bs_to, h]
  congr 1
  rcases Nat.le_total l.length 2100 with h1 | h1
  · rw [Nat.min_eq_left h1, List.take_of_length_le (Nat.le_refl _), List.take_of_length_le h1]
  · rw [Nat.min_eq_right h1]
theorem rec_rows (w : World) (k : Int) (s : ByteArray) (t : Nat) : (w.alloc (.cells #[.int .u8 k, .string s] t)).heap[w.heap.size]? = some (.cells #[.int .u8 k, .string s] t (0, 0)) := heap_new w _
theorem row_cells {W : World} {b : Nat} {k : Int} {s : ByteArray} {t : Nat} (h : W.heap[b]? = some (.cells #[.int .u8 k, .string s] t (0, 0))) : ∀ (j : Nat) (u : Value), [Value.int .u8 k, .string s][j]? = some u → W.cell? ((⟨b, 0, none⟩ : Addr).add j) = some u := by
  intro j u hu
  have e : (⟨b, 0, none⟩ : Addr).add j = ⟨b, j, none⟩ := by rw [Go.WideShapes.add_plain, Nat.zero_add]
  rw [e, cell_of_block h]
  simpa using hu
def RIs (L : List Rc) (w : World) (e : Ending) (w' : World) : Prop := ∃ (a1 a2 : Option Addr) (c1 c2 : Nat), e = .returned (.tuple #[.slice a1 (cutL L).length c1, .slice a2 (cutL L).length c2]) ∧ w'.ownsRow w.heap.size 38 2 (.slice a1 (cutL L).length c1) (cutL L).length ((cutL L).flatMap rcC) ∧ w'.ownsRow w.heap.size 50 2 (.slice a2 (cutL L).length c2) (cutL L).length ((cutL L).flatMap rcC) ∧ Below w.heap.size w w'
set_option maxRecDepth 100000 in
set_option maxHeartbeats 400000 in
theorem records_any (a : Option Addr) (cap : Nat) (L : List Rc) (hcap : L.length ≤ cap) (hmax : L.length ≤ 9223372036854775807) (w : World) (hin : RecsIn w a L) :
    Calls Try.prog 8 #[.slice a L.length cap] w (RIs L w) := by
  obtain ⟨iXA, hi, hz0, hz1, hz2⟩ := info_parts (show (Try.prog.info? 38).map (fun i => (i.zero, i.size, i.bytes)) = some (some (.agg #[.int .u8 0, .string ⟨#[]⟩]), 2, 24) by kernel_rfl)
  have HIXA := hide hi
  have HZ0XA := hide hz0
  have HZ1XA := hide hz1
  have HZ2XA := hide hz2
  clear hi hz0 hz1 hz2
  obtain ⟨iXB, hi, hz0, hz1, hz2⟩ := info_parts (show (Try.prog.info? 50).map (fun i => (i.zero, i.size, i.bytes)) = some (some (.agg #[.int .u8 0, .string ⟨#[]⟩]), 2, 24) by kernel_rfl)
  have HIXB := hide hi
  have HZ0XB := hide hz0
  have HZ1XB := hide hz1
  have HZ2XB := hide hz2
  clear hi hz0 hz1 hz2
  have HIN := hide hin
  clear hin
  obtain ⟨n, hn⟩ : ∃ n : Nat, min L.length 6 = n := ⟨_, rfl⟩
  have hn1 : n ≤ L.length := by omega
  have hn2 : n ≤ 6 := by omega
  have hmI : (min (L.length : Int) 6) = (n : Int) := by omega
  have hcI : (n : Int) ≤ (cap : Int) := by omega
  have HLEN := hide (cutL_length L)
  have HNX := hide (fun j h => cutL_next L j h)
  rw [hn] at HLEN HNX
  go_enter Try.func8, Try.ntmps8
  go_wp2_with fail
  have HN := hide (show 0 = 0 → min L.length 6 = n from fun _ => hn)
  clear hn hmI hcI
  go_loopw [4, 5, 14] (fun x y i W => ∃ (j : Nat) (a1 a2 : Option Addr) (c1 c2 : Nat), j ≤ n ∧ i = .int .i64 j ∧ x = .slice a1 j c1 ∧ y = .slice a2 j c2 ∧ W.ownsRow w.heap.size 38 2 (.slice a1 j c1) j (((cutL L).take j).flatMap rcC) ∧ W.ownsRow w.heap.size 50 2 (.slice a2 j c2) j (((cutL L).take j).flatMap rcC) ∧ Below w.heap.size w W) (fun _ _ i _ => n - (intOf i).toNat)
  case atStart => exact ⟨0, none, none, 0, 0, by omega, rfl, rfl, rfl, World.ownsRow_nil _ _ _ _, World.ownsRow_nil _ _ _ _, Below.refl _ _⟩
  case round =>
    obtain ⟨j, a1, a2, c1, c2, hj, rfl, rfl, rfl, h1, h2, hB⟩ := hrel
    have OA := hide h1
    have OB := hide h2
    have HB := hide hB
    clear h1 h2 hB
    by_cases hlt : j < n
    · obtain ⟨b, off, rfl, hbw, q0, q1⟩ := HIN.out j (by omega)
      have d0 := (HB.out.cell (p := ⟨b, off + j * 2, none⟩) hbw).trans q0
      have d1 := (HB.out.cell (p := ⟨b, off + j * 2 + 1, none⟩) hbw).trans q1
      have HNJ := hide (HNX.out j hlt)
      have HCR := hide (show cutR (L.getD j rc0) = ((L.getD j rc0).1, (L.getD j rc0).2.take 2100) from rfl)
      clear q0 q1
      generalize L.getD j rc0 = r at *
      obtain ⟨k, l⟩ := r
      dsimp only at *
      obtain ⟨m, hm⟩ : ∃ m : Nat, min l.length 2100 = m := ⟨_, rfl⟩
      have hcut := cut_bs l m hm.symm
      have hmI : min ((bs l).size : Int) 2100 = (m : Int) := by rw [bs_size]; omega
      have hm2 : (m : Int) ≤ ((bs l).size : Int) := by rw [bs_size]; omega
      have HRC := hide (show rcC (k, l.take 2100) = [.int .u8 (k.toNat : Int), .string (bs (l.take 2100))] from rfl)
      have LTA := hide (fun q (h : (Value.slice a1 j c1).ownBlock = some q) => (OA.out.lt q h).2)
      have LTB := hide (fun q (h : (Value.slice a2 j c2).ownBlock = some q) => (OB.out.lt q h).2)
      clear hm
      generalize bs (l.take 2100) = s at *
      generalize bs l = S at *
      generalize (k.toNat : Int) = ki at *
      go_upto_region 7 with (fail)
      have RR0 := hide (rec_rows wr ki s 53)
      have OA1 := hide (OA.out.alloc (.cells #[.int .u8 ki, .string s] 53))
      have OB1 := hide (OB.out.alloc (.cells #[.int .u8 ki, .string s] 53))
      have BL1 := hide (HB.out.alloc HB.out.size (.cells #[.int .u8 ki, .string s] 53))
      have LE1 := hide (show wr.heap.size ≤ (wr.alloc (.cells #[.int .u8 ki, .string s] 53)).heap.size by simp)
      have HXS := hide (show ((cutL L).take (j + 1)).flatMap rcC = ((cutL L).take j).flatMap rcC ++ [.int .u8 ki, .string s] by rw [HNJ.out, HCR.out, List.flatMap_append, ← HRC.out]; simp)
      clear OA OB HB HRC HCR HNJ d0 d1 hcut hmI hm2
      generalize ((cutL L).take j).flatMap rcC = xs at *
      generalize wr.alloc (.cells #[.int .u8 ki, .string s] 53) = w5 at *
      generalize wr.heap.size = rb at *
      have OAv0 := hide (show w5.drew.ownsRow w.heap.size 38 2 (.slice a1 j c1) j xs from OA1.out)
      have OBv0 := hide (show w5.drew.ownsRow w.heap.size 50 2 (.slice a2 j c2) j xs from OB1.out)
      have RRv0 := hide (show w5.drew.heap[rb]? = _ from RR0.out)
      have BLv0 := hide BL1.out.drew
      have LEv0 := hide (show rb ≤ w5.drew.heap.size from LE1.out)
      clear OA1 OB1 RR0 BL1 LE1
      refine wp_region_held_drew (S := (fun W => W.cell? ⟨rb, 0, none⟩ = some (.int .u8 ki) ∧ W.cell? ⟨rb, 1, none⟩ = some (.string s))) (by kernel_rfl) (⟨cell_of_block RRv0.out 0, cell_of_block RRv0.out 1⟩) (fun hHeld => ?_)
      generalize w5.drew = v0 at *
      refine wpAnyH_take (i := 0) (oi := { dst := some 26, op := Op.move (Operand.tmp 4), type := 27, pos := "law.go:23", after := #[], guard := none }) (v := ?_) rfl (by kernel_rfl) (by kernel_rfl) (by kernel_rfl) (fun _ _ _ h => h) (Or.inl ⟨by kernel_rfl, ?_⟩) hHeld ?_
      rotate_left
      · (intro w hSw; (try dsimp only at hSw); go_simp); try with_reducible rfl
      try simp only [Act.put, List.setIfInBounds_toArray, List.set_cons_zero, List.set_cons_succ]
      refine wpAnyH_take (i := 1) (oi := { dst := some 27, op := Op.load 53 (Operand.tmp 7), type := 53, pos := "law.go:23", after := #[], guard := none }) (v := ?_) rfl (by kernel_rfl) (by kernel_rfl) (by kernel_rfl) (fun _ _ _ h => h) (Or.inl ⟨by kernel_rfl, ?_⟩) hHeld ?_
      rotate_left
      · (intro w hSw; (try dsimp only at hSw); go_simp); try with_reducible rfl
      try simp only [Act.put, List.setIfInBounds_toArray, List.set_cons_zero, List.set_cons_succ]
      refine wpAnyH_take (i := 4) (oi := { dst := some 30, op := Op.move (Operand.tmp 5), type := 28, pos := "law.go:23", after := #[], guard := none }) (v := ?_) rfl (by kernel_rfl) (by kernel_rfl) (by kernel_rfl) (fun _ _ _ h => h) (Or.inl ⟨by kernel_rfl, ?_⟩) hHeld ?_
      rotate_left
      · (intro w hSw; (try dsimp only at hSw); go_simp); try with_reducible rfl
      try simp only [Act.put, List.setIfInBounds_toArray, List.set_cons_zero, List.set_cons_succ]
      refine wpAnyH_take (i := 5) (oi := { dst := some 31, op := Op.load 53 (Operand.tmp 7), type := 53, pos := "law.go:23", after := #[], guard := none }) (v := ?_) rfl (by kernel_rfl) (by kernel_rfl) (by kernel_rfl) (fun _ _ _ h => h) (Or.inl ⟨by kernel_rfl, ?_⟩) hHeld ?_
      rotate_left
      · (intro w hSw; (try dsimp only at hSw); go_simp); try with_reducible rfl
      try simp only [Act.put, List.setIfInBounds_toArray, List.set_cons_zero, List.set_cons_succ]
      refine wpAnyH_ready (rs := [2, 6]) (by kernel_rfl) (by simp) (AllReadyH.cons (o := { dst := some 28, op := Op.buildSlice 27 1 #[(0, Operand.tmp 27)], type := 27, pos := "law.go:23", after := #[{ on := 1, ground := Ground.data }], guard := none }) rfl (fun K hK => ?_) (AllReadyH.cons (o := { dst := some 32, op := Op.buildSlice 28 1 #[(0, Operand.tmp 31)], type := 28, pos := "law.go:23", after := #[{ on := 5, ground := Ground.data }], guard := none }) rfl (fun K hK => ?_) AllReadyH.nil))
      · have hOld := hide hHeld
        clear hHeld
        go_simp
        have OAv2 := hide (OAv0.out.alloc (.cells #[.int .u8 ki, .string s] 38))
        have OBv2 := hide (OBv0.out.alloc (.cells #[.int .u8 ki, .string s] 38))
        have RRv2 := hide ((heap_old v0 (.cells #[.int .u8 ki, .string s] 38) _ (heap_lt RRv0.out)).trans RRv0.out)
        have BLv2 := hide (BLv0.out.alloc BLv0.out.size (.cells #[.int .u8 ki, .string s] 38))
        have LEv2 := hide (show rb ≤ (v0.alloc (.cells #[.int .u8 ki, .string s] 38)).heap.size by have := LEv0.out; simp; omega)
        have XAv2 := hide (rec_rows v0 ki s 38)
        have hXA : rb ≤ v0.heap.size := LEv0.out
        generalize hq2 : World.alloc v0 (.cells #[.int .u8 ki, .string s] 38) = v2 at *
        generalize hb2 : v0.heap.size = bXA at *
        clear hq2 hb2
        (try go_wp2_with fail)
        refine hK.out _ _ (⟨cell_of_block RRv2.out 0, cell_of_block RRv2.out 1⟩) (fun hHeld => ?_)
        clear hK K hOld
        try simp only [Act.put, List.setIfInBounds_toArray, List.set_cons_zero, List.set_cons_succ]
        refine wpAnyH_ready (rs := [3, 6]) (by kernel_rfl) (by simp) (AllReadyH.cons (o := { dst := some 29, op := Op.call { callee := Callee.builtin Builtin.append, args := #[Operand.tmp 26, Operand.tmp 28], argTypes := #[27, 27] }, type := 27, pos := "law.go:23", after := #[{ on := 0, ground := Ground.data }, { on := 2, ground := Ground.data }], guard := none }) rfl (fun K hK => ?_) (AllReadyH.cons (o := { dst := some 32, op := Op.buildSlice 28 1 #[(0, Operand.tmp 31)], type := 28, pos := "law.go:23", after := #[{ on := 5, ground := Ground.data }], guard := none }) rfl (fun K hK => ?_) AllReadyH.nil))
        · have hOld := hide hHeld
          clear hHeld
          refine wp_append_own _ (.tmp 26) (.tmp 28) 27 rfl w.heap.size 38 iXA (.agg #[.int .u8 0, .string ⟨#[]⟩]) 2 24 Try.underlying27 HIXA.out HZ0XA.out HZ1XA.out HZ2XA.out rfl (by decide) (.slice a1 j c1) j xs rfl OAv2.out ⟨bXA, 0, none⟩ 1 1 [.int .u8 ki, .string s] rfl rfl (row_cells XAv2.out) (one2 _ _) (by unfold maxLen; omega) (by omega) BLv2.out.size ?_
          intro xXA v3 ho hgr hnil
          have OAv3 := hide ho
          have OBv3 := hide (keep_unlike OBv2.out OAv2.out (by decide) hgr)
          have RRv3 := hide (keep_high hgr LTA.out (Nat.le_refl _) RRv2.out)
          have BLv3 := hide (BLv2.out.grown hgr BLv2.out.size fun j h => (OAv2.out.lt j h).1)
          have LEv3 := hide (Nat.le_trans LEv2.out hgr.size)
          clear ho hgr hnil
          refine hK.out _ _ (⟨cell_of_block RRv3.out 0, cell_of_block RRv3.out 1⟩) (fun hHeld => ?_)
          clear hK K hOld
          try simp only [Act.put, List.setIfInBounds_toArray, List.set_cons_zero, List.set_cons_succ]
          refine wpAnyH_ready (rs := [6]) (by kernel_rfl) (by simp) (AllReadyH.cons (o := { dst := some 32, op := Op.buildSlice 28 1 #[(0, Operand.tmp 31)], type := 28, pos := "law.go:23", after := #[{ on := 5, ground := Ground.data }], guard := none }) rfl (fun K hK => ?_) AllReadyH.nil)
          have hOld := hide hHeld
          clear hHeld
          go_simp
          have OAv6 := hide (OAv3.out.alloc (.cells #[.int .u8 ki, .string s] 50))
          have OBv6 := hide (OBv3.out.alloc (.cells #[.int .u8 ki, .string s] 50))
          have RRv6 := hide ((heap_old v3 (.cells #[.int .u8 ki, .string s] 50) _ (heap_lt RRv3.out)).trans RRv3.out)
          have BLv6 := hide (BLv3.out.alloc BLv3.out.size (.cells #[.int .u8 ki, .string s] 50))
          have LEv6 := hide (show rb ≤ (v3.alloc (.cells #[.int .u8 ki, .string s] 50)).heap.size by have := LEv3.out; simp; omega)
          have XBv6 := hide (rec_rows v3 ki s 50)
          have hXB : rb ≤ v3.heap.size := LEv3.out
          generalize hq6 : World.alloc v3 (.cells #[.int .u8 ki, .string s] 50) = v6 at *
          generalize hb6 : v3.heap.size = bXB at *
          clear hq6 hb6
          (try go_wp2_with fail)
          refine hK.out _ _ (⟨cell_of_block RRv6.out 0, cell_of_block RRv6.out 1⟩) (fun hHeld => ?_)
          clear hK K hOld
          try simp only [Act.put, List.setIfInBounds_toArray, List.set_cons_zero, List.set_cons_succ]
          refine wpAnyH_ready (rs := [7]) (by kernel_rfl) (by simp) (AllReadyH.cons (o := { dst := some 33, op := Op.call { callee := Callee.builtin Builtin.append, args := #[Operand.tmp 30, Operand.tmp 32], argTypes := #[28, 28] }, type := 28, pos := "law.go:23", after := #[{ on := 4, ground := Ground.data }, { on := 6, ground := Ground.data }, { on := 3, ground := Ground.chain }], guard := none }) rfl (fun K hK => ?_) AllReadyH.nil)
          have hOld := hide hHeld
          clear hHeld
          refine wp_append_own _ (.tmp 30) (.tmp 32) 28 rfl w.heap.size 50 iXB (.agg #[.int .u8 0, .string ⟨#[]⟩]) 2 24 Try.underlying28 HIXB.out HZ0XB.out HZ1XB.out HZ2XB.out rfl (by decide) (.slice a2 j c2) j xs rfl OBv6.out ⟨bXB, 0, none⟩ 1 1 [.int .u8 ki, .string s] rfl rfl (row_cells XBv6.out) (one2 _ _) (by unfold maxLen; omega) (by omega) BLv6.out.size ?_
          intro xXB v7 ho hgr hnil
          have OBv7 := hide ho
          have OAv7 := hide (keep_unlike OAv6.out OBv6.out (by decide) hgr)
          have RRv7 := hide (keep_high hgr LTB.out (Nat.le_refl _) RRv6.out)
          have BLv7 := hide (BLv6.out.grown hgr BLv6.out.size fun j h => (OBv6.out.lt j h).1)
          have LEv7 := hide (Nat.le_trans LEv6.out hgr.size)
          clear ho hgr hnil
          refine hK.out _ _ (⟨cell_of_block RRv7.out 0, cell_of_block RRv7.out 1⟩) (fun hHeld => ?_)
          clear hK K hOld
          try simp only [Act.put, List.setIfInBounds_toArray, List.set_cons_zero, List.set_cons_succ]
          refine wpAnyH_take (i := 8) (oi := { dst := some 4, op := Op.assign (Operand.tmp 29), type := 27, pos := "law.go:23", after := #[{ on := 3, ground := Ground.data }, { on := 7, ground := Ground.chain }, { on := 0, ground := Ground.phase }, { on := 1, ground := Ground.phase }, { on := 2, ground := Ground.phase }, { on := 3, ground := Ground.phase }, { on := 4, ground := Ground.textOnly Departure.lateStores }, { on := 5, ground := Ground.textOnly Departure.lateStores }, { on := 6, ground := Ground.textOnly Departure.lateStores }, { on := 7, ground := Ground.textOnly Departure.lateStoresUnsure }], guard := none }) (v := ?_) rfl (by kernel_rfl) (by kernel_rfl) (by kernel_rfl) (fun _ _ _ h => h) (Or.inl ⟨by kernel_rfl, ?_⟩) hHeld ?_
          rotate_left
          · (intro w hSw; (try dsimp only at hSw); go_simp); try with_reducible rfl
          try simp only [Act.put, List.setIfInBounds_toArray, List.set_cons_zero, List.set_cons_succ]
          refine wpAnyH_take (i := 9) (oi := { dst := some 5, op := Op.assign (Operand.tmp 33), type := 28, pos := "law.go:23", after := #[{ on := 7, ground := Ground.data }, { on := 8, ground := Ground.chain }, { on := 0, ground := Ground.phase }, { on := 1, ground := Ground.phase }, { on := 2, ground := Ground.phase }, { on := 3, ground := Ground.phase }, { on := 4, ground := Ground.phase }, { on := 5, ground := Ground.phase }, { on := 6, ground := Ground.phase }, { on := 7, ground := Ground.phase }, { on := 8, ground := Ground.phase }], guard := none }) (v := ?_) rfl (by kernel_rfl) (by kernel_rfl) (by kernel_rfl) (fun _ _ _ h => h) (Or.inl ⟨by kernel_rfl, ?_⟩) hHeld ?_
          rotate_left
          · (intro w hSw; (try dsimp only at hSw); go_simp); try with_reducible rfl
          try simp only [Act.put, List.setIfInBounds_toArray, List.set_cons_zero, List.set_cons_succ]
          refine wpAnyH_done (by kernel_rfl) ?_ _
          obtain ⟨d1, f1, rfl⟩ := owns_slice_n OAv7.out
          obtain ⟨d2, f2, rfl⟩ := owns_slice_n OBv7.out
          go_wp2_with fail
          go_roundw
          case rel =>
            refine ⟨j + 1, d1, d2, f1, f2, by omega, by go_num, rfl, rfl, ?_, ?_, BLv7.out⟩
            · rw [HXS.out]; exact OAv7.out
            · rw [HXS.out]; exact OBv7.out
          case measure => simp [intOf]; omega
        · have hOld := hide hHeld
          clear hHeld
          go_simp
          have OAv6 := hide (OAv2.out.alloc (.cells #[.int .u8 ki, .string s] 50))
          have OBv6 := hide (OBv2.out.alloc (.cells #[.int .u8 ki, .string s] 50))
          have RRv6 := hide ((heap_old v2 (.cells #[.int .u8 ki, .string s] 50) _ (heap_lt RRv2.out)).trans RRv2.out)
          have BLv6 := hide (BLv2.out.alloc BLv2.out.size (.cells #[.int .u8 ki, .string s] 50))
          have LEv6 := hide (show rb ≤ (v2.alloc (.cells #[.int .u8 ki, .string s] 50)).heap.size by have := LEv2.out; simp; omega)
          have XBv6 := hide (rec_rows v2 ki s 50)
          have hXB : rb ≤ v2.heap.size := LEv2.out
          have XAv6 := hide ((heap_old v2 (.cells #[.int .u8 ki, .string s] 50) _ (heap_lt XAv2.out)).trans XAv2.out)
          generalize hq6 : World.alloc v2 (.cells #[.int .u8 ki, .string s] 50) = v6 at *
          generalize hb6 : v2.heap.size = bXB at *
          clear hq6 hb6
          (try go_wp2_with fail)
          refine hK.out _ _ (⟨cell_of_block RRv6.out 0, cell_of_block RRv6.out 1⟩) (fun hHeld => ?_)
          clear hK K hOld
          try simp only [Act.put, List.setIfInBounds_toArray, List.set_cons_zero, List.set_cons_succ]
          refine wpAnyH_ready (rs := [3]) (by kernel_rfl) (by simp) (AllReadyH.cons (o := { dst := some 29, op := Op.call { callee := Callee.builtin Builtin.append, args := #[Operand.tmp 26, Operand.tmp 28], argTypes := #[27, 27] }, type := 27, pos := "law.go:23", after := #[{ on := 0, ground := Ground.data }, { on := 2, ground := Ground.data }], guard := none }) rfl (fun K hK => ?_) AllReadyH.nil)
          have hOld := hide hHeld
          clear hHeld
          refine wp_append_own _ (.tmp 26) (.tmp 28) 27 rfl w.heap.size 38 iXA (.agg #[.int .u8 0, .string ⟨#[]⟩]) 2 24 Try.underlying27 HIXA.out HZ0XA.out HZ1XA.out HZ2XA.out rfl (by decide) (.slice a1 j c1) j xs rfl OAv6.out ⟨bXA, 0, none⟩ 1 1 [.int .u8 ki, .string s] rfl rfl (row_cells XAv6.out) (one2 _ _) (by unfold maxLen; omega) (by omega) BLv6.out.size ?_
          intro xXA v3 ho hgr hnil
          have OAv3 := hide ho
          have OBv3 := hide (keep_unlike OBv6.out OAv6.out (by decide) hgr)
          have RRv3 := hide (keep_high hgr LTA.out (Nat.le_refl _) RRv6.out)
          have BLv3 := hide (BLv6.out.grown hgr BLv6.out.size fun j h => (OAv6.out.lt j h).1)
          have LEv3 := hide (Nat.le_trans LEv6.out hgr.size)
          have XBv3 := hide (keep_high hgr LTA.out hXB XBv6.out)
          clear ho hgr hnil
          refine hK.out _ _ (⟨cell_of_block RRv3.out 0, cell_of_block RRv3.out 1⟩) (fun hHeld => ?_)
          clear hK K hOld
          try simp only [Act.put, List.setIfInBounds_toArray, List.set_cons_zero, List.set_cons_succ]
          refine wpAnyH_ready (rs := [7]) (by kernel_rfl) (by simp) (AllReadyH.cons (o := { dst := some 33, op := Op.call { callee := Callee.builtin Builtin.append, args := #[Operand.tmp 30, Operand.tmp 32], argTypes := #[28, 28] }, type := 28, pos := "law.go:23", after := #[{ on := 4, ground := Ground.data }, { on := 6, ground := Ground.data }, { on := 3, ground := Ground.chain }], guard := none }) rfl (fun K hK => ?_) AllReadyH.nil)
          have hOld := hide hHeld
          clear hHeld
          refine wp_append_own _ (.tmp 30) (.tmp 32) 28 rfl w.heap.size 50 iXB (.agg #[.int .u8 0, .string ⟨#[]⟩]) 2 24 Try.underlying28 HIXB.out HZ0XB.out HZ1XB.out HZ2XB.out rfl (by decide) (.slice a2 j c2) j xs rfl OBv3.out ⟨bXB, 0, none⟩ 1 1 [.int .u8 ki, .string s] rfl rfl (row_cells XBv3.out) (one2 _ _) (by unfold maxLen; omega) (by omega) BLv3.out.size ?_
          intro xXB v7 ho hgr hnil
          have OBv7 := hide ho
          have OAv7 := hide (keep_unlike OAv3.out OBv3.out (by decide) hgr)
          have RRv7 := hide (keep_high hgr LTB.out (Nat.le_refl _) RRv3.out)
          have BLv7 := hide (BLv3.out.grown hgr BLv3.out.size fun j h => (OBv3.out.lt j h).1)
          have LEv7 := hide (Nat.le_trans LEv3.out hgr.size)
          clear ho hgr hnil
          refine hK.out _ _ (⟨cell_of_block RRv7.out 0, cell_of_block RRv7.out 1⟩) (fun hHeld => ?_)
          clear hK K hOld
          try simp only [Act.put, List.setIfInBounds_toArray, List.set_cons_zero, List.set_cons_succ]
          refine wpAnyH_take (i := 8) (oi := { dst := some 4, op := Op.assign (Operand.tmp 29), type := 27, pos := "law.go:23", after := #[{ on := 3, ground := Ground.data }, { on := 7, ground := Ground.chain }, { on := 0, ground := Ground.phase }, { on := 1, ground := Ground.phase }, { on := 2, ground := Ground.phase }, { on := 3, ground := Ground.phase }, { on := 4, ground := Ground.textOnly Departure.lateStores }, { on := 5, ground := Ground.textOnly Departure.lateStores }, { on := 6, ground := Ground.textOnly Departure.lateStores }, { on := 7, ground := Ground.textOnly Departure.lateStoresUnsure }], guard := none }) (v := ?_) rfl (by kernel_rfl) (by kernel_rfl) (by kernel_rfl) (fun _ _ _ h => h) (Or.inl ⟨by kernel_rfl, ?_⟩) hHeld ?_
          rotate_left
          · (intro w hSw; (try dsimp only at hSw); go_simp); try with_reducible rfl
          try simp only [Act.put, List.setIfInBounds_toArray, List.set_cons_zero, List.set_cons_succ]
          refine wpAnyH_take (i := 9) (oi := { dst := some 5, op := Op.assign (Operand.tmp 33), type := 28, pos := "law.go:23", after := #[{ on := 7, ground := Ground.data }, { on := 8, ground := Ground.chain }, { on := 0, ground := Ground.phase }, { on := 1, ground := Ground.phase }, { on := 2, ground := Ground.phase }, { on := 3, ground := Ground.phase }, { on := 4, ground := Ground.phase }, { on := 5, ground := Ground.phase }, { on := 6, ground := Ground.phase }, { on := 7, ground := Ground.phase }, { on := 8, ground := Ground.phase }], guard := none }) (v := ?_) rfl (by kernel_rfl) (by kernel_rfl) (by kernel_rfl) (fun _ _ _ h => h) (Or.inl ⟨by kernel_rfl, ?_⟩) hHeld ?_
          rotate_left
          · (intro w hSw; (try dsimp only at hSw); go_simp); try with_reducible rfl
          try simp only [Act.put, List.setIfInBounds_toArray, List.set_cons_zero, List.set_cons_succ]
          refine wpAnyH_done (by kernel_rfl) ?_ _
          obtain ⟨d1, f1, rfl⟩ := owns_slice_n OAv7.out
          obtain ⟨d2, f2, rfl⟩ := owns_slice_n OBv7.out
          go_wp2_with fail
          go_roundw
          case rel =>
            refine ⟨j + 1, d1, d2, f1, f2, by omega, by go_num, rfl, rfl, ?_, ?_, BLv7.out⟩
            · rw [HXS.out]; exact OAv7.out
            · rw [HXS.out]; exact OBv7.out
          case measure => simp [intOf]; omega
      · have hOld := hide hHeld
        clear hHeld
        go_simp
        have OAv6 := hide (OAv0.out.alloc (.cells #[.int .u8 ki, .string s] 50))
        have OBv6 := hide (OBv0.out.alloc (.cells #[.int .u8 ki, .string s] 50))
        have RRv6 := hide ((heap_old v0 (.cells #[.int .u8 ki, .string s] 50) _ (heap_lt RRv0.out)).trans RRv0.out)
        have BLv6 := hide (BLv0.out.alloc BLv0.out.size (.cells #[.int .u8 ki, .string s] 50))
        have LEv6 := hide (show rb ≤ (v0.alloc (.cells #[.int .u8 ki, .string s] 50)).heap.size by have := LEv0.out; simp; omega)
        have XBv6 := hide (rec_rows v0 ki s 50)
        have hXB : rb ≤ v0.heap.size := LEv0.out
        generalize hq6 : World.alloc v0 (.cells #[.int .u8 ki, .string s] 50) = v6 at *
        generalize hb6 : v0.heap.size = bXB at *
        clear hq6 hb6
        (try go_wp2_with fail)
        refine hK.out _ _ (⟨cell_of_block RRv6.out 0, cell_of_block RRv6.out 1⟩) (fun hHeld => ?_)
        clear hK K hOld
        try simp only [Act.put, List.setIfInBounds_toArray, List.set_cons_zero, List.set_cons_succ]
        refine wpAnyH_ready (rs := [2]) (by kernel_rfl) (by simp) (AllReadyH.cons (o := { dst := some 28, op := Op.buildSlice 27 1 #[(0, Operand.tmp 27)], type := 27, pos := "law.go:23", after := #[{ on := 1, ground := Ground.data }], guard := none }) rfl (fun K hK => ?_) AllReadyH.nil)
        have hOld := hide hHeld
        clear hHeld
        go_simp
        have OAv2 := hide (OAv6.out.alloc (.cells #[.int .u8 ki, .string s] 38))
        have OBv2 := hide (OBv6.out.alloc (.cells #[.int .u8 ki, .string s] 38))
        have RRv2 := hide ((heap_old v6 (.cells #[.int .u8 ki, .string s] 38) _ (heap_lt RRv6.out)).trans RRv6.out)
        have BLv2 := hide (BLv6.out.alloc BLv6.out.size (.cells #[.int .u8 ki, .string s] 38))
        have LEv2 := hide (show rb ≤ (v6.alloc (.cells #[.int .u8 ki, .string s] 38)).heap.size by have := LEv6.out; simp; omega)
        have XAv2 := hide (rec_rows v6 ki s 38)
        have hXA : rb ≤ v6.heap.size := LEv6.out
        have XBv2 := hide ((heap_old v6 (.cells #[.int .u8 ki, .string s] 38) _ (heap_lt XBv6.out)).trans XBv6.out)
        generalize hq2 : World.alloc v6 (.cells #[.int .u8 ki, .string s] 38) = v2 at *
        generalize hb2 : v6.heap.size = bXA at *
        clear hq2 hb2
        (try go_wp2_with fail)
        refine hK.out _ _ (⟨cell_of_block RRv2.out 0, cell_of_block RRv2.out 1⟩) (fun hHeld => ?_)
        clear hK K hOld
        try simp only [Act.put, List.setIfInBounds_toArray, List.set_cons_zero, List.set_cons_succ]
        refine wpAnyH_ready (rs := [3]) (by kernel_rfl) (by simp) (AllReadyH.cons (o := { dst := some 29, op := Op.call { callee := Callee.builtin Builtin.append, args := #[Operand.tmp 26, Operand.tmp 28], argTypes := #[27, 27] }, type := 27, pos := "law.go:23", after := #[{ on := 0, ground := Ground.data }, { on := 2, ground := Ground.data }], guard := none }) rfl (fun K hK => ?_) AllReadyH.nil)
        have hOld := hide hHeld
        clear hHeld
        refine wp_append_own _ (.tmp 26) (.tmp 28) 27 rfl w.heap.size 38 iXA (.agg #[.int .u8 0, .string ⟨#[]⟩]) 2 24 Try.underlying27 HIXA.out HZ0XA.out HZ1XA.out HZ2XA.out rfl (by decide) (.slice a1 j c1) j xs rfl OAv2.out ⟨bXA, 0, none⟩ 1 1 [.int .u8 ki, .string s] rfl rfl (row_cells XAv2.out) (one2 _ _) (by unfold maxLen; omega) (by omega) BLv2.out.size ?_
        intro xXA v3 ho hgr hnil
        have OAv3 := hide ho
        have OBv3 := hide (keep_unlike OBv2.out OAv2.out (by decide) hgr)
        have RRv3 := hide (keep_high hgr LTA.out (Nat.le_refl _) RRv2.out)
        have BLv3 := hide (BLv2.out.grown hgr BLv2.out.size fun j h => (OAv2.out.lt j h).1)
        have LEv3 := hide (Nat.le_trans LEv2.out hgr.size)
        have XBv3 := hide (keep_high hgr LTA.out hXB XBv2.out)
        clear ho hgr hnil
        refine hK.out _ _ (⟨cell_of_block RRv3.out 0, cell_of_block RRv3.out 1⟩) (fun hHeld => ?_)
        clear hK K hOld
        try simp only [Act.put, List.setIfInBounds_toArray, List.set_cons_zero, List.set_cons_succ]
        refine wpAnyH_ready (rs := [7]) (by kernel_rfl) (by simp) (AllReadyH.cons (o := { dst := some 33, op := Op.call { callee := Callee.builtin Builtin.append, args := #[Operand.tmp 30, Operand.tmp 32], argTypes := #[28, 28] }, type := 28, pos := "law.go:23", after := #[{ on := 4, ground := Ground.data }, { on := 6, ground := Ground.data }, { on := 3, ground := Ground.chain }], guard := none }) rfl (fun K hK => ?_) AllReadyH.nil)
        have hOld := hide hHeld
        clear hHeld
        refine wp_append_own _ (.tmp 30) (.tmp 32) 28 rfl w.heap.size 50 iXB (.agg #[.int .u8 0, .string ⟨#[]⟩]) 2 24 Try.underlying28 HIXB.out HZ0XB.out HZ1XB.out HZ2XB.out rfl (by decide) (.slice a2 j c2) j xs rfl OBv3.out ⟨bXB, 0, none⟩ 1 1 [.int .u8 ki, .string s] rfl rfl (row_cells XBv3.out) (one2 _ _) (by unfold maxLen; omega) (by omega) BLv3.out.size ?_
        intro xXB v7 ho hgr hnil
        have OBv7 := hide ho
        have OAv7 := hide (keep_unlike OAv3.out OBv3.out (by decide) hgr)
        have RRv7 := hide (keep_high hgr LTB.out (Nat.le_refl _) RRv3.out)
        have BLv7 := hide (BLv3.out.grown hgr BLv3.out.size fun j h => (OBv3.out.lt j h).1)
        have LEv7 := hide (Nat.le_trans LEv3.out hgr.size)
        clear ho hgr hnil
        refine hK.out _ _ (⟨cell_of_block RRv7.out 0, cell_of_block RRv7.out 1⟩) (fun hHeld => ?_)
        clear hK K hOld
        try simp only [Act.put, List.setIfInBounds_toArray, List.set_cons_zero, List.set_cons_succ]
        refine wpAnyH_take (i := 8) (oi := { dst := some 4, op := Op.assign (Operand.tmp 29), type := 27, pos := "law.go:23", after := #[{ on := 3, ground := Ground.data }, { on := 7, ground := Ground.chain }, { on := 0, ground := Ground.phase }, { on := 1, ground := Ground.phase }, { on := 2, ground := Ground.phase }, { on := 3, ground := Ground.phase }, { on := 4, ground := Ground.textOnly Departure.lateStores }, { on := 5, ground := Ground.textOnly Departure.lateStores }, { on := 6, ground := Ground.textOnly Departure.lateStores }, { on := 7, ground := Ground.textOnly Departure.lateStoresUnsure }], guard := none }) (v := ?_) rfl (by kernel_rfl) (by kernel_rfl) (by kernel_rfl) (fun _ _ _ h => h) (Or.inl ⟨by kernel_rfl, ?_⟩) hHeld ?_
        rotate_left
        · (intro w hSw; (try dsimp only at hSw); go_simp); try with_reducible rfl
        try simp only [Act.put, List.setIfInBounds_toArray, List.set_cons_zero, List.set_cons_succ]
        refine wpAnyH_take (i := 9) (oi := { dst := some 5, op := Op.assign (Operand.tmp 33), type := 28, pos := "law.go:23", after := #[{ on := 7, ground := Ground.data }, { on := 8, ground := Ground.chain }, { on := 0, ground := Ground.phase }, { on := 1, ground := Ground.phase }, { on := 2, ground := Ground.phase }, { on := 3, ground := Ground.phase }, { on := 4, ground := Ground.phase }, { on := 5, ground := Ground.phase }, { on := 6, ground := Ground.phase }, { on := 7, ground := Ground.phase }, { on := 8, ground := Ground.phase }], guard := none }) (v := ?_) rfl (by kernel_rfl) (by kernel_rfl) (by kernel_rfl) (fun _ _ _ h => h) (Or.inl ⟨by kernel_rfl, ?_⟩) hHeld ?_
        rotate_left
        · (intro w hSw; (try dsimp only at hSw); go_simp); try with_reducible rfl
        try simp only [Act.put, List.setIfInBounds_toArray, List.set_cons_zero, List.set_cons_succ]
        refine wpAnyH_done (by kernel_rfl) ?_ _
        obtain ⟨d1, f1, rfl⟩ := owns_slice_n OAv7.out
        obtain ⟨d2, f2, rfl⟩ := owns_slice_n OBv7.out
        go_wp2_with fail
        go_roundw
        case rel =>
          refine ⟨j + 1, d1, d2, f1, f2, by omega, by go_num, rfl, rfl, ?_, ?_, BLv7.out⟩
          · rw [HXS.out]; exact OAv7.out
          · rw [HXS.out]; exact OBv7.out
        case measure => simp [intOf]; omega
    · obtain rfl : j = n := by omega
      have h1 := OA.out
      have h2 := OB.out
      rw [List.take_of_length_le (Nat.le_of_eq HLEN.out)] at h1 h2
      have OA1 := hide h1
      have OB1 := hide h2
      clear h1 h2 OA OB
      go_wp2_with fail
      go_ret2
      refine ⟨a1, a2, c1, c2, by rw [HLEN.out]; rfl, ?_, ?_, HB.out⟩
      · rw [HLEN.out]; exact OA1.out
      · rw [HLEN.out]; exact OB1.out
end Go.Proofs.Ytdjaldkjpmcbdaa
