/-
  Layer 24: Write to nothing; what a Put leaves; entries that come in.
-/
import Derived.Test.YtmomjefbifoliaaRKeys2
namespace Go.Proofs.Ytmomjefbifoliaa
set_option linter.unusedSimpArgs false
set_option linter.unusedVariables false
open Go.RowKit Go.WideShapes Go.ChangeShapes Go.ChangeAt Go.Deep

theorem KeysAt.onlyL {w w' : World} {p B lim : Nat} {L : List Ent} {v : Value} {qs : List Nat} (h : KeysAt w p B lim L v) (ho : OnlyL qs w w') (hp : p ∉ qs) (hv : ∀ g, v.ownBlock = some g → g ∉ qs) : KeysAt w' p B lim L v := by
  refine ⟨(ho.block p h.lt hp).trans h.head, ⟨h.owns.1, ?_⟩, h.base⟩
  rcases h.owns.2 with h3 | ⟨g, cap', cur, rfl, hg, hh, h4⟩
  · exact .inl h3
  · exact .inr ⟨g, cap', cur, rfl, hg, (ho.block g (heap_lt hh) (hv g rfl)).trans hh, h4⟩
theorem putA_good (L : List Ent) (lim : Nat) (x : Ent) (h : ∀ y ∈ L, GoodE y) (hk : 0 ≤ x.k ∧ x.k ≤ 18446744073709551615) : ∀ y ∈ putA L lim x, GoodE y := by
  intro y hy
  unfold putA at hy
  split at hy
  · rename_i hx
    rw [putL'] at hy
    rcases List.mem_append.1 (List.mem_of_mem_drop hy) with h1 | h1
    · exact h y h1
    · obtain rfl := List.mem_singleton.1 h1
      exact ⟨hk, hx.1⟩
  · exact h y hy
theorem putA_length (L : List Ent) (lim : Nat) (x : Ent) (h : L.length ≤ lim) (h1 : 1 ≤ lim) : (putA L lim x).length ≤ lim := by
  unfold putA
  split
  · simp [putL']; omega
  · exact h
/-- 'append' of nothing -/
theorem run_append_nothing {P : Program} (w : World) (t ty e : TypeId) (i : TypeInfo) (ht : P.underlying t = some (.slice e)) (hi : P.info? e = some i) (g n c : Nat) (a : Option Addr) (c' : Nat) (hn : n ≤ c) :
    (Builtin.append_ #[t, t] ty #[.slice (some ⟨g, 0, none⟩) n c, .slice a 0 c']).run P w = .ok (.slice (some ⟨g, 0, none⟩) n c) w := by
  cases a <;> simp [Builtin.append_, run_underlying ht, sizeOf, typeInfo, hi, Builtin.lenOf, Builtin.firstCells, loadCells, loadCellsFrom, hn, storeCells]
def EntryOk (x : Ent) : Prop := (0 ≤ x.k ∧ x.k ≤ 18446744073709551615) ∧ x.b.size ≤ 9223372036854775807 ∧ (-9223372036854775808 ≤ x.n ∧ x.n ≤ 9223372036854775807)
/-- a slice of entries that comes in -/
def EntriesIn (w : World) (a : Option Addr) (L : List Ent) : Prop := ∀ i, i < L.length → ∃ b off, a = some ⟨b, off, none⟩ ∧ b < w.heap.size ∧ w.cell? ⟨b, off + i * 3, none⟩ = some (.int .u64 (L.getD i ent0).k) ∧ w.cell? ⟨b, off + i * 3 + 1, none⟩ = some (.string (L.getD i ent0).b) ∧ w.cell? ⟨b, off + i * 3 + 2, none⟩ = some (.int .i64 (L.getD i ent0).n)
theorem open_entries {H : Type} {enc : TypeId × Value → H} {w : World} {base : Nat} {sp : Nat → Bool} {held : Bool} {r : Reach} {b0 : Nat} {v : Value} {d : DataW H} {ps : List MemPlace}
    (hv : Value.okWide Try.prog w r b0 22 v) (h : DataW.Trod enc Try.prog w base sp held 22 v d ps) :
    ∃ (a : Option Addr) (L : List Ent) (cap : Nat), v = .slice a L.length cap ∧ L.length ≤ cap ∧ L.length ≤ 9223372036854775807 ∧ EntriesIn w a L ∧ ∀ x ∈ L, EntryOk x := by
  obtain ⟨L, ⟨a, cap, rfl, hm, hc, _, hat⟩, hty⟩ := open_rows [.int .u64, .string, .int .i64] Try.underlying22 Try.underlying31 (by kernel_rfl) (by kernel_rfl) (by decide) rfl (fun j hj => by
    have : j = 0 ∨ j = 1 ∨ j = 2 := by simp at hj; omega
    rcases this with rfl | rfl | rfl <;> rfl) hv h
  obtain ⟨M, rfl, hM⟩ := rows_typed entC EntryOk L (fun x hx => by
    obtain ⟨hl, hcell⟩ := hty x hx
    match x, (show x.length = 3 from hl), hcell with
    | [x0, x1, x2], _, hcell =>
      obtain ⟨k, rfl, hk⟩ := hcell 0 _ _ rfl rfl
      obtain ⟨s, rfl, hs⟩ := hcell 1 _ _ rfl rfl
      obtain ⟨n, rfl, hn⟩ := hcell 2 _ _ rfl rfl
      exact ⟨⟨k, s, n⟩, rfl, wf_u64 hk, hs, wf_i64 hn⟩)
  refine ⟨a, M, cap, by rw [List.length_map], by simpa using hc, by unfold maxLen at hm; simpa using hm, fun i hi => ?_, hM⟩
  obtain ⟨b, off, ha, hb, hcs⟩ := hat i (by simpa using hi)
  have e := getD_map entC M ent0 i hi
  rw [e] at hcs
  refine ⟨b, off, ha, hb, ?_, ?_, ?_⟩
  · have := hcs 0 (show 0 < 3 by decide)
    rw [Nat.add_zero] at this
    exact this
  · have := hcs 1 (show 1 < 3 by decide)
    rw [← Nat.add_assoc] at this
    exact this
  · have := hcs 2 (show 2 < 3 by decide)
    rw [← Nat.add_assoc] at this
    exact this

set_option maxRecDepth 100000 in
set_option maxHeartbeats 1000000 in
theorem write24_nil (L : List Ent) (hL : L.length ≤ 100) (hG : ∀ x ∈ L, GoodE x) (p B0 lim : Nat) (v : Value) (w : World) (h : KeysAt w p B0 lim L v) :
    Calls Try.prog 14 #[.pointer (some ⟨p, 0, none⟩), .pointer none] w fun e w' => e = .returned (.tuple #[]) ∧ Below w.heap.size w w' := by
  obtain ⟨a, c, rfl⟩ := owns_shape h.owns
  have HN0 := hide (fun W => wnumber_nil (L.length : Int) (by omega) (by omega) 1 W)
  have KA := hide h
  have HGG := hide (fun k hk => hG _ (getE_mem L k hk))
  have hc1 := h.cell1
  have hlw : IntKind.u64.wrap (L.length : Int) = (L.length : Int) := by rw [IntKind.wrap_u64]; omega
  clear h hG
  go_enter Try.func14, Try.ntmps14
  go_wp2_with fail
  refine (HN0.out _).mono ?_
  rintro e w1 ⟨rfl, hb⟩
  have BL1 := hide hb
  have KA1 := hide (KA.out.below hb)
  have hc2 := KA1.out.cell1
  clear hb hc1
  go_wp2_with fail
  clear hc2
  go_loopw [21] (fun i W => ∃ k : Nat, k ≤ L.length ∧ i = .int .i64 k ∧ KeysAt W p B0 lim L (.slice a L.length c) ∧ Below w.heap.size w W) (fun i _ => L.length - (intOf i).toNat)
  case atStart => exact ⟨0, by omega, rfl, KA1.out, BL1.out⟩
  case round =>
    obtain ⟨k, hk, rfl, hka, hb⟩ := hrel
    have KR := hide hka
    have BR := hide hb
    clear hka hb
    by_cases hlt : k < L.length
    · obtain ⟨g, rfl, hg, d0, d1, d2⟩ := ents_at KR.out.owns k hlt
      have hgd := HGG.out k hlt
      generalize L.getD k ent0 = x at *
      obtain ⟨xk, xb, xn⟩ := x
      obtain ⟨⟨g0, g1⟩, g2, g3, g4⟩ := hgd
      dsimp only at *
      have HN1 := hide (fun W => wnumber_nil xk g0 g1 8 W)
      have HN2 := hide (fun W => wtext_nil xb (by omega) W)
      have HN3 := hide (fun W => wnumber_nil xn (by omega) (by omega) 4 W)
      have hnw : IntKind.u64.wrap xn = xn := by rw [IntKind.wrap_u64]; omega
      go_upto_region 5 with (fail)
      have EBa := hide (heap_new wr (.cells #[.int .u64 xk, .string xb, .int .i64 xn] 37))
      have BLa := hide ((Below.refl wr.heap.size wr).alloc (Nat.le_refl _) (.cells #[.int .u64 xk, .string xb, .int .i64 xn] 37))
      have HZR := hide (show wr.heap.size ≤ (wr.alloc (.cells #[.int .u64 xk, .string xb, .int .i64 xn] 37)).heap.size by simp)
      generalize wr.alloc (.cells #[.int .u64 xk, .string xb, .int .i64 xn] 37) = w5 at *
      have BLb := hide (below_trans BR.out BLa.out)
      have KB := hide (KR.out.below BLa.out)
      generalize wr.heap.size = eb at *
      have EB0 := hide (show w5.drew.heap[eb]? = _ from EBa.out)
      have BL0 := hide (show Below w5.drew.heap.size w5.drew w5.drew from Below.refl _ _)
      have BLc := hide BLb.out.drew
      have KC := hide KB.out.drew
      clear EBa BLa d0 d1 d2
      refine wp_region_held_drew (S := (fun W => W.cell? ⟨eb, 0, none⟩ = some (.int .u64 xk) ∧ W.cell? ⟨eb, 1, none⟩ = some (.string xb) ∧ W.cell? ⟨eb, 2, none⟩ = some (.int .i64 xn))) (by kernel_rfl) (⟨cell_of_block EB0.out 0, cell_of_block EB0.out 1, cell_of_block EB0.out 2⟩) (fun hHeld => ?_)
      have KC0 := KC.out
      have BC0 := BLc.out
      generalize w5.drew = v0 at *
      refine wpAnyH_take (i := 0) (oi := { dst := some 25, op := Op.move (Operand.tmp 1), type := 47, pos := "keys.go:99", after := #[], guard := none }) (v := ?_) rfl (by kernel_rfl) (by kernel_rfl) (by kernel_rfl) (fun _ _ _ h => h) (Or.inl ⟨by kernel_rfl, ?_⟩) hHeld ?_
      rotate_left
      · (intro w hSw; (try dsimp only at hSw); go_simp); try with_reducible rfl
      try simp only [Act.put, List.setIfInBounds_toArray, List.set_cons_zero, List.set_cons_succ]
      refine wpAnyH_take (i := 1) (oi := { dst := some 26, op := Op.fieldAddr 37 (Operand.tmp 5) 0, type := 0, pos := "keys.go:99", after := #[], guard := none }) (v := ?_) rfl (by kernel_rfl) (by kernel_rfl) (by kernel_rfl) (fun _ _ _ h => h) (Or.inl ⟨by kernel_rfl, ?_⟩) hHeld ?_
      rotate_left
      · (intro w hSw; (try dsimp only at hSw); go_simp); try with_reducible rfl
      try simp only [Act.put, List.setIfInBounds_toArray, List.set_cons_zero, List.set_cons_succ]
      refine wpAnyH_take (i := 2) (oi := { dst := some 27, op := Op.load 29 (Operand.tmp 26), type := 29, pos := "keys.go:99", after := #[{ on := 1, ground := Ground.data }], guard := none }) (v := ?_) rfl (by kernel_rfl) (by kernel_rfl) (by kernel_rfl) (fun _ _ _ h => h) (Or.inl ⟨by kernel_rfl, ?_⟩) hHeld ?_
      rotate_left
      · (intro w hSw; (try dsimp only at hSw); go_simp); try with_reducible rfl
      try simp only [Act.put, List.setIfInBounds_toArray, List.set_cons_zero, List.set_cons_succ]
      refine wpAnyH_take (i := 4) (oi := { dst := some 29, op := Op.fieldAddr 37 (Operand.tmp 5) 1, type := 0, pos := "keys.go:99", after := #[], guard := none }) (v := ?_) rfl (by kernel_rfl) (by kernel_rfl) (by kernel_rfl) (fun _ _ _ h => h) (Or.inl ⟨by kernel_rfl, ?_⟩) hHeld ?_
      rotate_left
      · (intro w hSw; (try dsimp only at hSw); go_simp); try with_reducible rfl
      try simp only [Act.put, List.setIfInBounds_toArray, List.set_cons_zero, List.set_cons_succ]
      refine wpAnyH_take (i := 5) (oi := { dst := some 30, op := Op.load 9 (Operand.tmp 29), type := 9, pos := "keys.go:99", after := #[{ on := 4, ground := Ground.data }], guard := none }) (v := ?_) rfl (by kernel_rfl) (by kernel_rfl) (by kernel_rfl) (fun _ _ _ h => h) (Or.inl ⟨by kernel_rfl, ?_⟩) hHeld ?_
      rotate_left
      · (intro w hSw; (try dsimp only at hSw); go_simp); try with_reducible rfl
      try simp only [Act.put, List.setIfInBounds_toArray, List.set_cons_zero, List.set_cons_succ]
      refine wpAnyH_take (i := 7) (oi := { dst := some 32, op := Op.fieldAddr 37 (Operand.tmp 5) 2, type := 0, pos := "keys.go:99", after := #[], guard := none }) (v := ?_) rfl (by kernel_rfl) (by kernel_rfl) (by kernel_rfl) (fun _ _ _ h => h) (Or.inl ⟨by kernel_rfl, ?_⟩) hHeld ?_
      rotate_left
      · (intro w hSw; (try dsimp only at hSw); go_simp); try with_reducible rfl
      try simp only [Act.put, List.setIfInBounds_toArray, List.set_cons_zero, List.set_cons_succ]
      refine wpAnyH_take (i := 8) (oi := { dst := some 33, op := Op.load 3 (Operand.tmp 32), type := 3, pos := "keys.go:99", after := #[{ on := 7, ground := Ground.data }], guard := none }) (v := ?_) rfl (by kernel_rfl) (by kernel_rfl) (by kernel_rfl) (fun _ _ _ h => h) (Or.inl ⟨by kernel_rfl, ?_⟩) hHeld ?_
      rotate_left
      · (intro w hSw; (try dsimp only at hSw); go_simp); try with_reducible rfl
      try simp only [Act.put, List.setIfInBounds_toArray, List.set_cons_zero, List.set_cons_succ]
      refine wpAnyH_take (i := 9) (oi := { dst := some 34, op := Op.convert 3 29 (Operand.tmp 33), type := 29, pos := "keys.go:99", after := #[{ on := 8, ground := Ground.data }], guard := none }) (v := ?_) rfl (by kernel_rfl) (by kernel_rfl) (by kernel_rfl) (fun _ _ _ h => h) (Or.inl ⟨by kernel_rfl, ?_⟩) hHeld ?_
      rotate_left
      · (intro w hSw; (try dsimp only at hSw); go_simp); try with_reducible rfl
      try simp only [Act.put, List.setIfInBounds_toArray, List.set_cons_zero, List.set_cons_succ]
      refine wpAnyH_ready (rs := [3]) (by kernel_rfl) (by simp) (AllReadyH.cons (o := { dst := some 28, op := Op.call { callee := Callee.value (Operand.func 22), args := #[Operand.tmp 25, Operand.tmp 27, Operand.const (Value.int IntKind.i64 8)], argTypes := #[47, 29, 3] }, type := 47, pos := "keys.go:99", after := #[{ on := 0, ground := Ground.data }, { on := 2, ground := Ground.data }], guard := none }) rfl (fun K hK => ?_) AllReadyH.nil)
      have hOld := hide hHeld
      clear hHeld
      go_simp
      refine (HN1.out _).mono ?_
      rintro e v3 ⟨rfl, hb⟩
      have BL3 := hide (below_trans BL0.out hb)
      have EB3 := hide ((hb.block _ (heap_lt EB0.out)).trans EB0.out)
      clear hb
      (try go_wp2_with fail)
      refine hK.out _ _ (⟨cell_of_block EB3.out 0, cell_of_block EB3.out 1, cell_of_block EB3.out 2⟩) (fun hHeld => ?_)
      clear hK K hOld
      try simp only [Act.put, List.setIfInBounds_toArray, List.set_cons_zero, List.set_cons_succ]
      refine wpAnyH_ready (rs := [6]) (by kernel_rfl) (by simp) (AllReadyH.cons (o := { dst := some 31, op := Op.call { callee := Callee.value (Operand.func 23), args := #[Operand.tmp 28, Operand.tmp 30], argTypes := #[47, 9] }, type := 47, pos := "keys.go:99", after := #[{ on := 3, ground := Ground.data }, { on := 5, ground := Ground.data }, { on := 3, ground := Ground.chain }], guard := none }) rfl (fun K hK => ?_) AllReadyH.nil)
      have hOld := hide hHeld
      clear hHeld
      go_simp
      refine (HN2.out _).mono ?_
      rintro e v6 ⟨rfl, hb⟩
      have BL6 := hide (below_trans BL3.out hb)
      have EB6 := hide ((hb.block _ (heap_lt EB3.out)).trans EB3.out)
      clear hb
      (try go_wp2_with fail)
      refine hK.out _ _ (⟨cell_of_block EB6.out 0, cell_of_block EB6.out 1, cell_of_block EB6.out 2⟩) (fun hHeld => ?_)
      clear hK K hOld
      try simp only [Act.put, List.setIfInBounds_toArray, List.set_cons_zero, List.set_cons_succ]
      refine wpAnyH_ready (rs := [10]) (by kernel_rfl) (by simp) (AllReadyH.cons (o := { dst := some 35, op := Op.call { callee := Callee.value (Operand.func 22), args := #[Operand.tmp 31, Operand.tmp 34, Operand.const (Value.int IntKind.i64 4)], argTypes := #[47, 29, 3] }, type := 47, pos := "keys.go:99", after := #[{ on := 6, ground := Ground.data }, { on := 9, ground := Ground.data }, { on := 6, ground := Ground.chain }], guard := none }) rfl (fun K hK => ?_) AllReadyH.nil)
      have hOld := hide hHeld
      clear hHeld
      go_simp
      refine (HN3.out _).mono ?_
      rintro e v10 ⟨rfl, hb⟩
      have BL10 := hide (below_trans BL6.out hb)
      have EB10 := hide ((hb.block _ (heap_lt EB6.out)).trans EB6.out)
      clear hb
      (try go_wp2_with fail)
      refine hK.out _ _ (⟨cell_of_block EB10.out 0, cell_of_block EB10.out 1, cell_of_block EB10.out 2⟩) (fun hHeld => ?_)
      clear hK K hOld
      try simp only [Act.put, List.setIfInBounds_toArray, List.set_cons_zero, List.set_cons_succ]
      refine wpAnyH_done (by kernel_rfl) ?_ _
      clear hHeld
      have KD := hide (KC.out.below BL10.out)
      have BD := hide (below_trans BLc.out BL10.out)
      go_wp2_with fail
      go_roundw
      case rel => exact ⟨k + 1, by omega, by go_num, KD.out, BD.out⟩
      case measure => simp [intOf]; omega
    · obtain rfl : k = L.length := by omega
      go_wp2_with fail
      go_end0
      exact ⟨rfl, BR.out⟩
end Go.Proofs.Ytmomjefbifoliaa
