/-
  Layer 24, the program's calls: Copy and Write by contract.
-/
import Derived.Test.YtmomjefbifoliaaKeys7
import Derived.Test.YtmomjefbifoliaaCurW
import Derived.Test.YtmomjefbifoliaaCur6
namespace Go.Proofs.Ytmomjefbifoliaa
set_option linter.unusedSimpArgs false
set_option linter.unusedVariables false
open Go.RowKit Go.WideShapes Go.ChangeShapes Go.ChangeAt

theorem KeepsT.turns {Ts : List TypeId} {w w' : World} (h : KeepsT Ts w w') : Turns Ts w w' := fun k c t fz hk ht => h.cells hk ht
/-- entries' bytes -/
def entT (x : Ent) : List UInt8 := putS x.k 8 ++ (putS (x.b.size : Int) 1 ++ x.b.data.toList) ++ putS x.n 4
def keysT (L : List Ent) : List UInt8 := putS (L.length : Int) 1 ++ L.flatMap entT
/-- an entry of keys -/
def GoodE (x : Ent) : Prop := (0 ≤ x.k ∧ x.k ≤ 18446744073709551615) ∧ rightE x
theorem entT_length (x : Ent) (h : GoodE x) : (entT x).length ≤ 300 := by
  have h1 := putS_le x.k 8
  have h2 := putS_le (x.b.size : Int) 1
  have h3 := putS_le x.n 4
  obtain ⟨_, hb, _⟩ := h
  simp only [entT, List.length_append, size_list]
  omega
theorem entsT_length : ∀ (L : List Ent), (∀ x ∈ L, GoodE x) → (L.flatMap entT).length ≤ 300 * L.length
  | [], _ => by simp
  | x :: L, h => by
    have h1 := entT_length x (h x (by simp))
    have h2 := entsT_length L fun y hy => h y (by simp [hy])
    rw [List.flatMap_cons, List.length_append, List.length_cons]
    omega
theorem entsT_next (L : List Ent) (k : Nat) (h : k < L.length) : (L.take (k + 1)).flatMap entT = (L.take k).flatMap entT ++ entT (L.getD k ent0) := by
  rw [List.take_succ_eq_append_getElem h, List.flatMap_append]
  simp [List.getD, h]
theorem getE_mem (L : List Ent) (k : Nat) (h : k < L.length) : L.getD k ent0 ∈ L := by simp [List.getD, h]
theorem fits_key (k : Int) (h0 : 0 ≤ k) (h1 : k ≤ 18446744073709551615) : fitsB k.toNat 8 = true := by
  unfold fitsB
  rw [decide_eq_true_iff]
  refine ⟨by decide, by decide, ?_⟩
  show k.toNat < 18446744073709551616
  omega
theorem fits_num (n : Int) (h1 : n ≤ 4294967295) : fitsB n.toNat 4 = true := by
  unfold fitsB
  rw [decide_eq_true_iff]
  refine ⟨by decide, by decide, ?_⟩
  show n.toNat < 4294967296
  omega
theorem fits_len (n : Nat) (h : n ≤ 255) : fitsB ((n : Int)).toNat 1 = true := by
  unfold fitsB
  rw [decide_eq_true_iff]
  refine ⟨by decide, by decide, ?_⟩
  show ((n : Int)).toNat < 256
  omega
theorem wrL_tt (l b : List UInt8) : wrL l b false true = l ++ b := rfl
theorem wrB_tt : wrB false true = false := rfl

set_option maxRecDepth 100000 in
set_option maxHeartbeats 400000 in
theorem copy24_any (L : List Ent) (hL : L.length ≤ 1000) (p B lim : Nat) (v : Value) (w : World) (h : KeysAt w p B lim L v) :
    Calls Try.prog 8 #[.pointer (some ⟨p, 0, none⟩)] w (CopyIs lim L w) := by
  have HLI := hide (fun W hW => list24_any L hL p B lim v W hW)
  have KA0 := hide h.drew
  have BL0 := hide ((Below.refl w.heap.size w).drew)
  have HZ0 := hide (show w.drew.heap.size = w.heap.size from rfl)
  clear h
  go_enter Try.func8, Try.ntmps8
  go_upto_region 3 with (fail)
  refine wp_region_held_drew (S := (fun W => W.cell? ⟨p, 0, none⟩ = some (.int .i64 (lim : Int)))) (by kernel_rfl) (KA0.out.cell0) (fun hHeld => ?_)
  generalize w.drew = v0 at *
  refine wpAnyH_take (i := 0) (oi := { dst := some 5, op := Op.move (Operand.tmp 0), type := 23, pos := "keys.go:89", after := #[], guard := none }) (v := ?_) rfl (by kernel_rfl) (by kernel_rfl) (by kernel_rfl) (fun _ _ _ h => h) (Or.inl ⟨by kernel_rfl, ?_⟩) hHeld ?_
  rotate_left
  · (intro w hSw; (try dsimp only at hSw); go_simp); try with_reducible rfl
  try simp only [Act.put, List.setIfInBounds_toArray, List.set_cons_zero, List.set_cons_succ]
  refine wpAnyH_take (i := 1) (oi := { dst := some 6, op := Op.nilCheck (Operand.tmp 5), type := 0, pos := "keys.go:89", after := #[{ on := 0, ground := Ground.data }], guard := none }) (v := ?_) rfl (by kernel_rfl) (by kernel_rfl) (by kernel_rfl) (fun _ _ _ h => h) (Or.inl ⟨by kernel_rfl, ?_⟩) hHeld ?_
  rotate_left
  · (intro w hSw; (try dsimp only at hSw); go_simp); try with_reducible rfl
  try simp only [Act.put, List.setIfInBounds_toArray, List.set_cons_zero, List.set_cons_succ]
  refine wpAnyH_take (i := 2) (oi := { dst := some 7, op := Op.fieldAddr 58 (Operand.tmp 6) 0, type := 0, pos := "keys.go:89", after := #[{ on := 1, ground := Ground.data }], guard := none }) (v := ?_) rfl (by kernel_rfl) (by kernel_rfl) (by kernel_rfl) (fun _ _ _ h => h) (Or.inl ⟨by kernel_rfl, ?_⟩) hHeld ?_
  rotate_left
  · (intro w hSw; (try dsimp only at hSw); go_simp); try with_reducible rfl
  try simp only [Act.put, List.setIfInBounds_toArray, List.set_cons_zero, List.set_cons_succ]
  refine wpAnyH_take (i := 3) (oi := { dst := some 8, op := Op.load 3 (Operand.tmp 7), type := 3, pos := "keys.go:89", after := #[{ on := 2, ground := Ground.data }], guard := none }) (v := ?_) rfl (by kernel_rfl) (by kernel_rfl) (by kernel_rfl) (fun _ _ _ h => h) (Or.inl ⟨by kernel_rfl, ?_⟩) hHeld ?_
  rotate_left
  · (intro w hSw; (try dsimp only at hSw); go_simp); try with_reducible rfl
  try simp only [Act.put, List.setIfInBounds_toArray, List.set_cons_zero, List.set_cons_succ]
  refine wpAnyH_take (i := 4) (oi := { dst := some 9, op := Op.move (Operand.tmp 0), type := 23, pos := "keys.go:89", after := #[], guard := none }) (v := ?_) rfl (by kernel_rfl) (by kernel_rfl) (by kernel_rfl) (fun _ _ _ h => h) (Or.inl ⟨by kernel_rfl, ?_⟩) hHeld ?_
  rotate_left
  · (intro w hSw; (try dsimp only at hSw); go_simp); try with_reducible rfl
  try simp only [Act.put, List.setIfInBounds_toArray, List.set_cons_zero, List.set_cons_succ]
  refine wpAnyH_ready (rs := [5]) (by kernel_rfl) (by simp) (AllReadyH.cons (o := { dst := some 10, op := Op.call { callee := Callee.value (Operand.func 17), args := #[Operand.tmp 9], argTypes := #[23] }, type := 52, pos := "keys.go:89", after := #[{ on := 4, ground := Ground.data }], guard := none }) rfl (fun K hK => ?_) AllReadyH.nil)
  have hOld := hide hHeld
  clear hHeld
  go_simp
  refine (HLI.out _ KA0.out).mono ?_
  rintro e v5 ⟨a5, c5, rfl, ho, hb⟩
  have KA5 := hide (KA0.out.below hb)
  have BL5 := hide (below_trans BL0.out hb)
  have OW5 := hide ho
  clear ho hb
  (try go_wp2_with fail)
  refine hK.out _ _ (KA5.out.cell0) (fun hHeld => ?_)
  clear hK K hOld
  try simp only [Act.put, List.setIfInBounds_toArray, List.set_cons_zero, List.set_cons_succ]
  refine wpAnyH_take (i := 6) (oi := { dst := some 11, op := Op.build 58 #[(0, Operand.tmp 8), (1, Operand.tmp 10)], type := 58, pos := "keys.go:89", after := #[{ on := 3, ground := Ground.data }, { on := 5, ground := Ground.data }], guard := none }) (v := ?_) rfl (by kernel_rfl) (by kernel_rfl) (by kernel_rfl) (fun _ _ _ h => h) (Or.inl ⟨by kernel_rfl, ?_⟩) hHeld ?_
  rotate_left
  · (intro w hSw; (try dsimp only at hSw); go_simp); try with_reducible rfl
  try simp only [Act.put, List.setIfInBounds_toArray, List.set_cons_zero, List.set_cons_succ]
  refine wpAnyH_ready (rs := [7]) (by kernel_rfl) (by simp) (AllReadyH.cons (o := { dst := some 12, op := Op.box 58 (Operand.tmp 11), type := 23, pos := "keys.go:89", after := #[{ on := 6, ground := Ground.data }], guard := none }) rfl (fun K hK => ?_) AllReadyH.nil)
  have hOld := hide hHeld
  clear hHeld
  go_simp
  have KA7 := hide (KA5.out.below ((Below.refl v5.heap.size v5).alloc (Nat.le_refl _) (.cells #[.int .i64 (lim : Int), .slice a5 L.length c5] 58)))
  (try go_wp2_with fail)
  refine hK.out _ _ (KA7.out.cell0) (fun hHeld => ?_)
  clear hK K hOld
  try simp only [Act.put, List.setIfInBounds_toArray, List.set_cons_zero, List.set_cons_succ]
  refine wpAnyH_take (i := 8) (oi := { dst := some 2, op := Op.assign (Operand.tmp 12), type := 23, pos := "keys.go:89", after := #[{ on := 7, ground := Ground.data }, { on := 5, ground := Ground.chain }, { on := 0, ground := Ground.phase }, { on := 1, ground := Ground.phase }, { on := 2, ground := Ground.phase }, { on := 3, ground := Ground.phase }, { on := 4, ground := Ground.phase }, { on := 5, ground := Ground.phase }, { on := 6, ground := Ground.phase }, { on := 7, ground := Ground.phase }], guard := none }) (v := ?_) rfl (by kernel_rfl) (by kernel_rfl) (by kernel_rfl) (fun _ _ _ h => h) (Or.inl ⟨by kernel_rfl, ?_⟩) hHeld ?_
  rotate_left
  · (intro w hSw; (try dsimp only at hSw); go_simp); try with_reducible rfl
  try simp only [Act.put, List.setIfInBounds_toArray, List.set_cons_zero, List.set_cons_succ]
  refine wpAnyH_done (by kernel_rfl) ?_ _
  clear hHeld
  have o5 := OW5.out
  rw [HZ0.out] at o5
  have OWF := hide o5
  have HBZ := hide (show w.heap.size ≤ v5.heap.size from BL5.out.size)
  clear o5
  go_wp2_with fail
  go_ret
  exact ⟨v5.heap.size, .slice a5 L.length c5, rfl, ⟨heap_new v5 _, OWF.out.alloc _, HBZ.out⟩, BL5.out.alloc HBZ.out _⟩

/-- Write's turn -/
def WriteIs (B q : Nat) (l : List UInt8) (w : World) (e : Ending) (w' : World) : Prop := e = .returned (.tuple #[]) ∧ WrAt w' B q l false ∧ Below B w w' ∧ KeepsT [5, 45] w w'
set_option maxRecDepth 100000 in
set_option maxHeartbeats 1000000 in
theorem write24_any (L : List Ent) (hL : L.length ≤ 100) (hG : ∀ x ∈ L, GoodE x) (p B0 lim B q : Nat) (v : Value) (w : World) (h : KeysAt w p B0 lim L v) (hW : WrAt w B q [] false) (hBq : B ≤ q) :
    Calls Try.prog 14 #[.pointer (some ⟨p, 0, none⟩), .pointer (some ⟨q, 0, none⟩)] w (WriteIs B q (keysT L) w) := by
  obtain ⟨a, c, rfl⟩ := owns_shape h.owns
  have HN0 := hide (fun W hw => wnumber_k B q [] false (by simp) (L.length : Int) (by omega) (by omega) 1 W hw hBq)
  rw [fits_len L.length (by omega), wrL_tt, wrB_tt, List.nil_append] at HN0
  have HBQ := hide hBq
  have HWQ := hide (show B ≤ w.heap.size from by obtain ⟨a, c, h1, _⟩ := hW; exact Nat.le_trans hBq (Nat.le_of_lt (heap_lt h1)))
  have KA := hide h
  have WA := hide hW
  have HGG := hide (fun k hk => hG _ (getE_mem L k hk))
  have HLEN := hide (fun k : Nat => Nat.le_trans (entsT_length (L.take k) (fun x hx => hG x (List.mem_of_mem_take hx))) (show 300 * (L.take k).length ≤ 30000 by rw [List.length_take]; omega))
  have HNX := hide (fun k hk => entsT_next L k hk)
  have hc1 := h.cell1
  have hlw : IntKind.u64.wrap (L.length : Int) = (L.length : Int) := by rw [IntKind.wrap_u64]; omega
  clear h hW hG hBq
  go_enter Try.func14, Try.ntmps14
  go_wp2_with fail
  refine (HN0.out _ WA.out).mono ?_
  rintro e w1 ⟨rfl, hw, hb, hkt⟩
  have WR1 := hide hw
  have BL1 := hide hb
  have KT1 := hide hkt
  have KA1 := hide (KA.out.turns hkt.turns (by decide) (by decide))
  have hc2 := KA1.out.cell1
  clear hw hb hkt hc1
  go_wp2_with fail
  clear hc2
  go_loopw [21] (fun i W => ∃ k : Nat, k ≤ L.length ∧ i = .int .i64 k ∧ WrAt W B q (putS (L.length : Int) 1 ++ (L.take k).flatMap entT) false ∧ KeysAt W p B0 lim L (.slice a L.length c) ∧ Below B w W ∧ KeepsT [5, 45] w W) (fun i _ => L.length - (intOf i).toNat)
  case atStart => exact ⟨0, by omega, rfl, by simpa using WR1.out, KA1.out, BL1.out, KT1.out⟩
  case round =>
    obtain ⟨k, hk, rfl, hw, hka, hb, hkt⟩ := hrel
    have WR := hide hw
    have KR := hide hka
    have BR := hide hb
    have TR := hide hkt
    clear hw hka hb hkt
    by_cases hlt : k < L.length
    · obtain ⟨g, rfl, hg, d0, d1, d2⟩ := ents_at KR.out.owns k hlt
      have hgd := HGG.out k hlt
      have hln := HLEN.out k
      have HN := hide (HNX.out k hlt)
      have hwz : B ≤ wr.heap.size := Nat.le_trans HWQ.out BR.out.size
      generalize L.getD k ent0 = x at *
      obtain ⟨xk, xb, xn⟩ := x
      obtain ⟨⟨g0, g1⟩, g2, g3, g4⟩ := hgd
      dsimp only at *
      have HN1 := hide (fun W hw => wnumber_k B q (putS (L.length : Int) 1 ++ (L.take k).flatMap entT) false (by rw [List.length_append]; have := putS_le (L.length : Int) 1; omega) xk g0 g1 8 W hw HBQ.out)
      rw [fits_key xk g0 g1, wrL_tt, wrB_tt] at HN1
      have HN2 := hide (fun W hw => wtext_k B q (putS (L.length : Int) 1 ++ (L.take k).flatMap entT ++ putS xk 8) false (by rw [List.length_append, List.length_append]; have := putS_le (L.length : Int) 1; have := putS_le xk 8; omega) xb (by omega) W hw HBQ.out)
      rw [decide_eq_true g2, wrL_tt, wrB_tt] at HN2
      have HN3 := hide (fun W hw => wnumber_k B q (putS (L.length : Int) 1 ++ (L.take k).flatMap entT ++ putS xk 8 ++ (putS (xb.size : Int) 1 ++ xb.data.toList)) false (by simp only [List.length_append, size_list]; have := putS_le (L.length : Int) 1; have := putS_le xk 8; have := putS_le (xb.size : Int) 1; omega) xn (by omega) (by omega) 4 W hw HBQ.out)
      rw [fits_num xn g4, wrL_tt, wrB_tt] at HN3
      have hnw : IntKind.u64.wrap xn = xn := by rw [IntKind.wrap_u64]; omega
      go_upto_region 5 with (fail)
      have EBa := hide (heap_new wr (.cells #[.int .u64 xk, .string xb, .int .i64 xn] 37))
      have BLa := hide (BR.out.alloc hwz (.cells #[.int .u64 xk, .string xb, .int .i64 xn] 37))
      have KTa := hide (TR.out.trans (KeepsT.of_below ((Below.refl wr.heap.size wr).alloc (Nat.le_refl _) (.cells #[.int .u64 xk, .string xb, .int .i64 xn] 37))))
      have WRa := hide (WR.out.below ((Below.refl wr.heap.size wr).alloc (Nat.le_refl _) (.cells #[.int .u64 xk, .string xb, .int .i64 xn] 37)))
      generalize wr.alloc (.cells #[.int .u64 xk, .string xb, .int .i64 xn] 37) = w5 at *
      generalize wr.heap.size = eb at *
      have EB0 := hide (show w5.drew.heap[eb]? = _ from EBa.out)
      have BL0 := hide BLa.out.drew
      have KT0 := hide (show KeepsT [5, 45] w w5.drew from KTa.out)
      have WR0 := hide (show WrAt w5.drew B q (putS (L.length : Int) 1 ++ (L.take k).flatMap entT) false from WRa.out)
      clear EBa BLa KTa WRa d0 d1 d2
      refine wp_region_held_drew (S := (fun W => W.cell? ⟨eb, 0, none⟩ = some (.int .u64 xk) ∧ W.cell? ⟨eb, 1, none⟩ = some (.string xb) ∧ W.cell? ⟨eb, 2, none⟩ = some (.int .i64 xn))) (by kernel_rfl) (⟨cell_of_block EB0.out 0, cell_of_block EB0.out 1, cell_of_block EB0.out 2⟩) (fun hHeld => ?_)
      generalize w5.drew = v0 at *
      refine wpAnyH_take (i := 0) (oi := { dst := some 25, op := Op.move (Operand.tmp 1), type := 47, pos := "keys.go:99", after := #[], guard := none }) (v := ?_) rfl (by kernel_rfl) (by kernel_rfl) (by kernel_rfl) (fun _ _ _ h => h) (Or.inl ⟨by kernel_rfl, ?_⟩) hHeld ?_
      rotate_left
      · (intro w hSw; (try dsimp only at hSw); go_simp); try with_reducible rfl
      try simp only [Act.put, List.setIfInBounds_toArray, List.set_cons_zero, List.set_cons_succ]
      refine wpAnyH_take (i := 1) (oi := { dst := some 26, op := Op.fieldAddr 37 (Operand.tmp 5) 0, type := 0, pos := "keys.go:99", after := #[], guard := none }) (v := ?_) rfl (by kernel_rfl) (by kernel_rfl) (by kernel_rfl) (fun _ _ _ h => h) (Or.inl ⟨by kernel_rfl, ?_⟩) hHeld ?_
      rotate_left
      · (intro w hSw; (try dsimp only at hSw); go_simp); try with_reducible rfl
      try simp only [Act.put, List.setIfInBounds_toArray, List.set_cons_zero, List.set_cons_succ]
      refine wpAnyH_take (i := 2) (oi := { dst := some 27, op := Op.load 29 (Operand.tmp 26), type := 29, pos := "keys.go:99", after := #[{ on := 1, ground := Ground.data }], guard := none }) (v := ?_) rfl (by kernel_rfl) (by kernel_rfl) (by kernel_rfl) (fun _ _ _ h => h) (Or.inl ⟨by kernel_rfl, ?_⟩) hHeld ?_
      rotate_left
      · (intro w hSw; (try dsimp only at hSw); go_simp); try with_reducible rfl
      try simp only [Act.put, List.setIfInBounds_toArray, List.set_cons_zero, List.set_cons_succ]
      refine wpAnyH_take (i := 4) (oi := { dst := some 29, op := Op.fieldAddr 37 (Operand.tmp 5) 1, type := 0, pos := "keys.go:99", after := #[], guard := none }) (v := ?_) rfl (by kernel_rfl) (by kernel_rfl) (by kernel_rfl) (fun _ _ _ h => h) (Or.inl ⟨by kernel_rfl, ?_⟩) hHeld ?_
      rotate_left
      · (intro w hSw; (try dsimp only at hSw); go_simp); try with_reducible rfl
      try simp only [Act.put, List.setIfInBounds_toArray, List.set_cons_zero, List.set_cons_succ]
      refine wpAnyH_take (i := 5) (oi := { dst := some 30, op := Op.load 9 (Operand.tmp 29), type := 9, pos := "keys.go:99", after := #[{ on := 4, ground := Ground.data }], guard := none }) (v := ?_) rfl (by kernel_rfl) (by kernel_rfl) (by kernel_rfl) (fun _ _ _ h => h) (Or.inl ⟨by kernel_rfl, ?_⟩) hHeld ?_
      rotate_left
      · (intro w hSw; (try dsimp only at hSw); go_simp); try with_reducible rfl
      try simp only [Act.put, List.setIfInBounds_toArray, List.set_cons_zero, List.set_cons_succ]
      refine wpAnyH_take (i := 7) (oi := { dst := some 32, op := Op.fieldAddr 37 (Operand.tmp 5) 2, type := 0, pos := "keys.go:99", after := #[], guard := none }) (v := ?_) rfl (by kernel_rfl) (by kernel_rfl) (by kernel_rfl) (fun _ _ _ h => h) (Or.inl ⟨by kernel_rfl, ?_⟩) hHeld ?_
      rotate_left
      · (intro w hSw; (try dsimp only at hSw); go_simp); try with_reducible rfl
      try simp only [Act.put, List.setIfInBounds_toArray, List.set_cons_zero, List.set_cons_succ]
      refine wpAnyH_take (i := 8) (oi := { dst := some 33, op := Op.load 3 (Operand.tmp 32), type := 3, pos := "keys.go:99", after := #[{ on := 7, ground := Ground.data }], guard := none }) (v := ?_) rfl (by kernel_rfl) (by kernel_rfl) (by kernel_rfl) (fun _ _ _ h => h) (Or.inl ⟨by kernel_rfl, ?_⟩) hHeld ?_
      rotate_left
      · (intro w hSw; (try dsimp only at hSw); go_simp); try with_reducible rfl
      try simp only [Act.put, List.setIfInBounds_toArray, List.set_cons_zero, List.set_cons_succ]
      refine wpAnyH_take (i := 9) (oi := { dst := some 34, op := Op.convert 3 29 (Operand.tmp 33), type := 29, pos := "keys.go:99", after := #[{ on := 8, ground := Ground.data }], guard := none }) (v := ?_) rfl (by kernel_rfl) (by kernel_rfl) (by kernel_rfl) (fun _ _ _ h => h) (Or.inl ⟨by kernel_rfl, ?_⟩) hHeld ?_
      rotate_left
      · (intro w hSw; (try dsimp only at hSw); go_simp); try with_reducible rfl
      try simp only [Act.put, List.setIfInBounds_toArray, List.set_cons_zero, List.set_cons_succ]
      refine wpAnyH_ready (rs := [3]) (by kernel_rfl) (by simp) (AllReadyH.cons (o := { dst := some 28, op := Op.call { callee := Callee.value (Operand.func 22), args := #[Operand.tmp 25, Operand.tmp 27, Operand.const (Value.int IntKind.i64 8)], argTypes := #[47, 29, 3] }, type := 47, pos := "keys.go:99", after := #[{ on := 0, ground := Ground.data }, { on := 2, ground := Ground.data }], guard := none }) rfl (fun K hK => ?_) AllReadyH.nil)
      have hOld := hide hHeld
      clear hHeld
      go_simp
      refine (HN1.out _ WR0.out).mono ?_
      rintro e v3 ⟨rfl, hw, hb, hkt⟩
      have WR3 := hide hw
      have BL3 := hide (BL0.out.trans hb)
      have KT3 := hide (KT0.out.trans hkt)
      have EB3 := hide (hkt.cells EB0.out (by decide))
      clear hw hb hkt
      (try go_wp2_with fail)
      refine hK.out _ _ (⟨cell_of_block EB3.out 0, cell_of_block EB3.out 1, cell_of_block EB3.out 2⟩) (fun hHeld => ?_)
      clear hK K hOld
      try simp only [Act.put, List.setIfInBounds_toArray, List.set_cons_zero, List.set_cons_succ]
      refine wpAnyH_ready (rs := [6]) (by kernel_rfl) (by simp) (AllReadyH.cons (o := { dst := some 31, op := Op.call { callee := Callee.value (Operand.func 23), args := #[Operand.tmp 28, Operand.tmp 30], argTypes := #[47, 9] }, type := 47, pos := "keys.go:99", after := #[{ on := 3, ground := Ground.data }, { on := 5, ground := Ground.data }, { on := 3, ground := Ground.chain }], guard := none }) rfl (fun K hK => ?_) AllReadyH.nil)
      have hOld := hide hHeld
      clear hHeld
      go_simp
      refine (HN2.out _ WR3.out).mono ?_
      rintro e v6 ⟨rfl, hw, hb, hkt⟩
      have WR6 := hide hw
      have BL6 := hide (BL3.out.trans hb)
      have KT6 := hide (KT3.out.trans hkt)
      have EB6 := hide (hkt.cells EB3.out (by decide))
      clear hw hb hkt
      (try go_wp2_with fail)
      refine hK.out _ _ (⟨cell_of_block EB6.out 0, cell_of_block EB6.out 1, cell_of_block EB6.out 2⟩) (fun hHeld => ?_)
      clear hK K hOld
      try simp only [Act.put, List.setIfInBounds_toArray, List.set_cons_zero, List.set_cons_succ]
      refine wpAnyH_ready (rs := [10]) (by kernel_rfl) (by simp) (AllReadyH.cons (o := { dst := some 35, op := Op.call { callee := Callee.value (Operand.func 22), args := #[Operand.tmp 31, Operand.tmp 34, Operand.const (Value.int IntKind.i64 4)], argTypes := #[47, 29, 3] }, type := 47, pos := "keys.go:99", after := #[{ on := 6, ground := Ground.data }, { on := 9, ground := Ground.data }, { on := 6, ground := Ground.chain }], guard := none }) rfl (fun K hK => ?_) AllReadyH.nil)
      have hOld := hide hHeld
      clear hHeld
      go_simp
      refine (HN3.out _ WR6.out).mono ?_
      rintro e v10 ⟨rfl, hw, hb, hkt⟩
      have WR10 := hide hw
      have BL10 := hide (BL6.out.trans hb)
      have KT10 := hide (KT6.out.trans hkt)
      have EB10 := hide (hkt.cells EB6.out (by decide))
      clear hw hb hkt
      (try go_wp2_with fail)
      refine hK.out _ _ (⟨cell_of_block EB10.out 0, cell_of_block EB10.out 1, cell_of_block EB10.out 2⟩) (fun hHeld => ?_)
      clear hK K hOld
      try simp only [Act.put, List.setIfInBounds_toArray, List.set_cons_zero, List.set_cons_succ]
      refine wpAnyH_done (by kernel_rfl) ?_ _
      clear hHeld
      go_wp2_with fail
      go_roundw
      case rel =>
        refine ⟨k + 1, by omega, by go_num, ?_, KA.out.turns KT10.out.turns (by decide) (by decide), BL10.out, KT10.out⟩
        have hw := WR10.out
        rw [HN.out]
        simpa [entT, List.append_assoc] using hw
      case measure => simp [intOf]; omega
    · obtain rfl : k = L.length := by omega
      have hw := WR.out
      rw [List.take_length] at hw
      have HF := hide hw
      clear hw
      go_wp2_with fail
      go_end0
      exact ⟨rfl, HF.out, BR.out, TR.out⟩
end Go.Proofs.Ytmomjefbifoliaa
