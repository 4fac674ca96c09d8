import Derived.Test.YtbnbfnlfgmlcgaaRSale
import Derived.Test.YtbnbfnlfgmlcgaaSale2
import Derived.Test.YtbnbfnlfgmlcgaaRSale4
import Derived.Test.YtbnbfnlfgmlcgaaSale5
import Derived.Deep.CutBlock
/-
  Layer 25: the law's equal.
-/
--import Derived.Test.Zdbg
namespace Go.Proofs.Ytbnbfnlfgmlcgaa
set_option linter.unusedSimpArgs false
set_option linter.unusedVariables false
open Go.RowKit Go.WideShapes Go.ChangeShapes Go.ChangeAt Go.Deep

set_option maxRecDepth 100000 in
set_option maxHeartbeats 2000000 in
theorem equal_any (t : TxM) (hL : t.L.length ≤ 1000) (a b : Option Addr) (c d : Nat) (w : World) (h1 : LnIn w a t.L) (h2 : LnIn w b t.L) :
    Calls Try.prog 36 #[txV ⟨t, a, c⟩, txV ⟨t, b, d⟩] w fun e w' => e = .returned (.bool true) ∧ Below w.heap.size w w' := by
  obtain ⟨num, k, s, r, am, le, vb, LL⟩ := t
  unfold txV txC
  dsimp only at hL h1 h2 ⊢
  have s1 : (w.alloc (.cells #[.int .i64 num, .int .u8 k, .int .i64 s, .int .i64 r, .int .i64 am, .int .i64 le, .bool vb, .slice a LL.length c] 35)).heap.size = w.heap.size + 1 := Array.size_push ..
  have hal := ((Below.refl w.heap.size w).alloc (Nat.le_refl _) (.cells #[.int .i64 num, .int .u8 k, .int .i64 s, .int .i64 r, .int .i64 am, .int .i64 le, .bool vb, .slice a LL.length c] 35)).alloc (show w.heap.size ≤ (w.alloc (.cells #[.int .i64 num, .int .u8 k, .int .i64 s, .int .i64 r, .int .i64 am, .int .i64 le, .bool vb, .slice a LL.length c] 35)).heap.size by simp) (.cells #[.int .i64 num, .int .u8 k, .int .i64 s, .int .i64 r, .int .i64 am, .int .i64 le, .bool vb, .slice b LL.length d] 38)
  have XA := hide (show ((w.alloc (.cells #[.int .i64 num, .int .u8 k, .int .i64 s, .int .i64 r, .int .i64 am, .int .i64 le, .bool vb, .slice a LL.length c] 35)).alloc (.cells #[.int .i64 num, .int .u8 k, .int .i64 s, .int .i64 r, .int .i64 am, .int .i64 le, .bool vb, .slice b LL.length d] 38)).heap[w.heap.size]? = some (.cells #[.int .i64 num, .int .u8 k, .int .i64 s, .int .i64 r, .int .i64 am, .int .i64 le, .bool vb, .slice a LL.length c] 35 (0, 0)) by rw [heap_old _ _ _ (by simp), heap_new])
  have XB := hide (show ((w.alloc (.cells #[.int .i64 num, .int .u8 k, .int .i64 s, .int .i64 r, .int .i64 am, .int .i64 le, .bool vb, .slice a LL.length c] 35)).alloc (.cells #[.int .i64 num, .int .u8 k, .int .i64 s, .int .i64 r, .int .i64 am, .int .i64 le, .bool vb, .slice b LL.length d] 38)).heap[w.heap.size + 1]? = some (.cells #[.int .i64 num, .int .u8 k, .int .i64 s, .int .i64 r, .int .i64 am, .int .i64 le, .bool vb, .slice b LL.length d] 38 (0, 0)) by exact heap_alloc2_new w _ _)
  have H1 := hide (h1.below hal)
  have H2 := hide (h2.below hal)
  have B1 := hide hal
  clear hal h1 h2 s1
  go_enter Try.func36, Try.ntmps36
  go_upto_region 1 with (fail)
  generalize (w.alloc (.cells #[.int .i64 num, .int .u8 k, .int .i64 s, .int .i64 r, .int .i64 am, .int .i64 le, .bool vb, .slice a LL.length c] 35)).alloc (.cells #[.int .i64 num, .int .u8 k, .int .i64 s, .int .i64 r, .int .i64 am, .int .i64 le, .bool vb, .slice b LL.length d] 38) = w1 at *
  obtain ⟨p, hp⟩ : ∃ p, w.heap.size = p := ⟨_, rfl⟩
  obtain ⟨q, hq⟩ : ∃ q, p + 1 = q := ⟨_, rfl⟩
  rw [hp] at XA XB ⊢
  rw [hq] at XB ⊢
  clear hp hq
  have a0 := cell_of_block XA.out 0
  have a1 := cell_of_block XA.out 1
  have a2 := cell_of_block XA.out 2
  have a3 := cell_of_block XA.out 3
  have a4 := cell_of_block XA.out 4
  have a5 := cell_of_block XA.out 5
  have a6 := cell_of_block XA.out 6
  have a7 := cell_of_block XA.out 7
  have b0 := cell_of_block XB.out 0
  have b1 := cell_of_block XB.out 1
  have b2 := cell_of_block XB.out 2
  have b3 := cell_of_block XB.out 3
  have b4 := cell_of_block XB.out 4
  have b5 := cell_of_block XB.out 5
  have b6 := cell_of_block XB.out 6
  have b7 := cell_of_block XB.out 7
  have hvv : (vb != vb) = false := by cases vb <;> rfl
  go_wp2_with fail
  clear a0 a1 a2 a3 a4 a5 a6 b0 b1 b2 b3 b4 b5 b6
  go_loopw [65] (fun i W => ∃ (j m : Nat), j ≤ LL.length ∧ i = .int .i64 j ∧ W = w1.drewN m) (fun i _ => LL.length - (intOf i).toNat)
  case atStart => exact ⟨0, 0, by omega, rfl, rfl⟩
  case round =>
    obtain ⟨j, m, hj, rfl, rfl⟩ := hrel
    by_cases hlt : j < LL.length
    · obtain ⟨g1, o1, rfl, hl1, p0, p1⟩ := H1.out j hlt
      obtain ⟨g2, o2, rfl, hl2, r0, r1⟩ := H2.out j hlt
      have p0 : (w1.drewN m).cell? ⟨g1, o1 + j * 2, none⟩ = _ := p0
      have p1 : (w1.drewN m).cell? ⟨g1, o1 + j * 2 + 1, none⟩ = _ := p1
      have r0 : (w1.drewN m).cell? ⟨g2, o2 + j * 2, none⟩ = _ := r0
      have r1 : (w1.drewN m).cell? ⟨g2, o2 + j * 2 + 1, none⟩ = _ := r1
      have a7 : (w1.drewN m).cell? ⟨p, 7, none⟩ = _ := a7
      have b7 : (w1.drewN m).cell? ⟨q, 7, none⟩ = _ := b7
      have hbd : IntKind.i64.wrap ((j : Int) + 1) = (j : Int) + 1 := by rw [IntKind.wrap_i64]; omega
      have hlti : (j : Int) < (LL.length : Int) := by omega
      obtain ⟨w2, hw2⟩ : ∃ w2, w1.drewN m = w2 := ⟨_, rfl⟩
      have HW2 := hide hw2
      rw [hw2] at p0 p1 r0 r1 a7 b7 ⊢
      clear hw2
      generalize (LL.getD j ln0).c = yc at *
      generalize (LL.getD j ln0).n = yn at *
      go_wp2_with fail
      go_quiet (fail)
      go_wp2_with fail
      go_roundw
      case rel => exact ⟨j + 1, _, hlt, by go_num, by rw [← HW2.out]; first | rfl | exact drewN_add _ _ _⟩
      case measure => simp [intOf]; omega
    · obtain rfl : j = LL.length := by omega
      go_wp2_with fail
      go_ret
      exact ⟨rfl, below_dn B1.out _⟩
end Go.Proofs.Ytbnbfnlfgmlcgaa

/-
  Layer 25: the law's same: is the register the document's?
-/
--import Derived.Test.Zdbg
namespace Go.Proofs.Ytbnbfnlfgmlcgaa
set_option linter.unusedSimpArgs false
set_option linter.unusedVariables false
open Go.RowKit Go.WideShapes Go.ChangeShapes Go.ChangeAt Go.Deep

theorem findT_self {M : List TxM} {next : Int} (hN : NumsT M next) (hl : (M.length : Int) ≤ next - 1) (k : Nat) (hk : k < M.length) : findT M.length next (M.getD k tx0).num = some k := by
  have := hN k hk
  unfold findT
  rw [if_neg (by omega)]
  congr 1
  omega
theorem put_nn (a : Act) (v : Value) : a.put none v = a := rfl
theorem s8_below {w w' : World} {tb xb mb g2 : Nat} {c1 c2 c3 : Array Value} {t1 t2 t3 : TypeId} {f1 f2 f3 : Nat × Nat} {o0 o1 o2 o3 o4 o5 o6 o7 : Nat} {v0 v1 v2 v3 v4 v5 v6 v7 : Option Value}
    (h : w.heap[tb]? = some (.cells c1 t1 f1) ∧ w.heap[xb]? = some (.cells c2 t2 f2) ∧ w.heap[mb]? = some (.cells c3 t3 f3) ∧ w.cell? ⟨g2, o0, none⟩ = v0 ∧ w.cell? ⟨g2, o1, none⟩ = v1 ∧ w.cell? ⟨g2, o2, none⟩ = v2 ∧ w.cell? ⟨g2, o3, none⟩ = v3 ∧ w.cell? ⟨g2, o4, none⟩ = v4 ∧ w.cell? ⟨g2, o5, none⟩ = v5 ∧ w.cell? ⟨g2, o6, none⟩ = v6 ∧ w.cell? ⟨g2, o7, none⟩ = v7)
    {q : Nat} (hg : g2 < q ∧ q ≤ w.heap.size) (hb : Below w.heap.size w w') :
    w'.heap[tb]? = some (.cells c1 t1 f1) ∧ w'.heap[xb]? = some (.cells c2 t2 f2) ∧ w'.heap[mb]? = some (.cells c3 t3 f3) ∧ w'.cell? ⟨g2, o0, none⟩ = v0 ∧ w'.cell? ⟨g2, o1, none⟩ = v1 ∧ w'.cell? ⟨g2, o2, none⟩ = v2 ∧ w'.cell? ⟨g2, o3, none⟩ = v3 ∧ w'.cell? ⟨g2, o4, none⟩ = v4 ∧ w'.cell? ⟨g2, o5, none⟩ = v5 ∧ w'.cell? ⟨g2, o6, none⟩ = v6 ∧ w'.cell? ⟨g2, o7, none⟩ = v7 := by
  obtain ⟨h1, h2, h3, r0, r1, r2, r3, r4, r5, r6, r7⟩ := h
  have hc : ∀ o, w'.cell? ⟨g2, o, none⟩ = w.cell? ⟨g2, o, none⟩ := fun o => hb.cell (p := ⟨g2, o, none⟩) (show g2 < w.heap.size by omega)
  exact ⟨(hb.block _ (heap_lt h1)).trans h1, (hb.block _ (heap_lt h2)).trans h2, (hb.block _ (heap_lt h3)).trans h3, (hc _).trans r0, (hc _).trans r1, (hc _).trans r2, (hc _).trans r3, (hc _).trans r4, (hc _).trans r5, (hc _).trans r6, (hc _).trans r7⟩
set_option maxRecDepth 100000 in
set_option maxHeartbeats 8000000 in
theorem same25_any (B p : Nat) (keep keep2 next : Int) (v : Value) (T : List TxA) (a2 : Option Addr) (cp2 : Nat) (T2 : List TxA) (hm : T2.map (·.t) = T.map (·.t)) (w : World) (h : RegAt w B p keep next v T) (hd : RegD w a2 cp2 T2) :
    Calls Try.prog 13 #[.pointer (some ⟨p, 0, none⟩), regV keep2 next a2 T2.length cp2] w fun e w' => e = .returned (.bool true) ∧ Below w.heap.size w w' := by
  have hl2 : T2.length = T.length := by have := congrArg List.length hm; simpa using this
  obtain ⟨n, hn⟩ : ∃ n, T.length = n := ⟨_, rfl⟩
  have hfew : n ≤ 512 := by have h1 := h.few; have h2 := h.kp; omega
  have HNX := hide (fun W (hW : RegAt W B p keep next v T) => slnext_any B p keep next v T W hW)
  have HLS := hide (fun W (hW : RegAt W B p keep next v T) => sllist_any B p keep next v T W hW)
  have HGT := hide (fun j (hj : inR j) W (hW : RegAt W B p keep next v T) => slget_any B p keep next v T j hj W hW)
  have HNUM := hide (fun k (hk : k < T.length) => (show inR (T.getD k ta0).t.num ∧ findT T.length next (T.getD k ta0).t.num = some k from by
    have h1 := h.nums k (by rw [List.length_map]; exact hk)
    have h2 := findT_self h.nums (by rw [List.length_map]; exact h.few.2) k (by rw [List.length_map]; exact hk)
    rw [getD_tx] at h1 h2
    rw [List.length_map] at h1 h2
    have h3 := h.nx
    have h4 := h.few
    exact ⟨by unfold inR; omega, h2⟩))
  have HFW := hide (fun k (hk : k < T.length) => (show (T.getD k ta0).t.L.length ≤ 1000 from (h.ok _ (List.mem_map.2 ⟨_, (show T.getD k ta0 ∈ T by simp [List.getD, hk]), rfl⟩)).1.few))
  have HT2 := hide (fun k => (show (T2.getD k ta0).t = (T.getD k ta0).t from by rw [← getD_tx, ← getD_tx, hm]))
  have RG := hide h
  have HD := hide hd
  have HL2 := hide hl2
  have HN := hide hn
  have HFEW := hide hfew
  clear h hd hm hfew
  unfold regV
  rw [hl2, hn]
  clear hl2 hn
  have hal := (Below.refl w.heap.size w).alloc (Nat.le_refl _) (.cells #[.int .i64 keep2, .int .i64 next, .slice a2 n cp2] 27)
  have X1 := hide (heap_new w (.cells #[.int .i64 keep2, .int .i64 next, .slice a2 n cp2] 27))
  have RG1 := hide (RG.out.below hal)
  have HD1 := hide (HD.out.below hal)
  have B1 := hide hal
  clear hal RG HD
  go_enter Try.func13, Try.ntmps13
  go_upto_region 1 with (fail)
  generalize w.alloc (.cells #[.int .i64 keep2, .int .i64 next, .slice a2 n cp2] 27) = w1 at *
  obtain ⟨mb, hmb⟩ : ∃ k, w.heap.size = k := ⟨_, rfl⟩
  rw [hmb] at X1 ⊢
  have HMB := hide hmb
  clear hmb
  go_wp2_with fail
  refine (HLS.out _ RG1.out).mono ?_
  rintro e w2 ⟨T', a1, c1, hmT, rfl, ho, hln, hb⟩
  have X2 := hide ((hb.block _ (heap_lt X1.out)).trans X1.out)
  have RG2 := hide (RG1.out.below hb)
  have HD2 := hide (HD1.out.below hb)
  have B2 := hide (B1.out.trans (hb.mono B1.out.size))
  have HLT := hide (show T'.length = n from by have := congrArg List.length hmT; rw [← HN.out]; simpa using this)
  have HT1 := hide (fun k => (show (T'.getD k ta0).t = (T.getD k ta0).t from by rw [← getD_tx, ← getD_tx, hmT]))
  have O2 := hide (show w2.ownsRow w1.heap.size 35 8 (.slice a1 T'.length c1) T'.length (T'.flatMap txC) from by rw [HLT.out, ← HN.out]; exact ho)
  have LN2 := hide hln
  rw [HN.out]
  clear hb hmT ho hln X1 RG1 HD1 B1 HLS
  go_upto_region 2 with (fail)
  have X0 := hide (show w2.drew.heap[mb]? = _ from X2.out)
  have RG0 := hide (show RegAt w2.drew B p keep next v T from RG2.out.drewN 1)
  have HD0 := hide HD2.out.drew
  have O0 := hide (show w2.drew.ownsRow w1.heap.size 35 8 (.slice a1 T'.length c1) T'.length (T'.flatMap txC) from O2.out)
  have LN0 := hide (fun y (hy : y ∈ T') => (show LnT w2.drew y.la y.t.L from LN2.out y hy))
  have B0 := hide (show Below w.heap.size w w2.drew from B2.out.drew)
  clear X2 RG2 HD2 O2 LN2 B2
  refine wp_region_held_drew (S := (fun W => W.heap[mb]? = some (.cells #[.int .i64 keep2, .int .i64 next, .slice a2 n cp2] 27 (0, 0)))) (by kernel_rfl) (X0.out) (fun hHeld => ?_)
  generalize w2.drew = z0 at *
  refine wpAnyH_take (i := 0) (oi := { dst := some 12, op := Op.move (Operand.tmp 0), type := 49, pos := "law.go:60", after := #[], guard := none }) (v := ?_) rfl (by kernel_rfl) (by kernel_rfl) (by kernel_rfl) (fun _ _ _ h => h) (Or.inl ⟨by kernel_rfl, ?_⟩) hHeld ?_
  rotate_left
  · (intro w hSw; (try dsimp only at hSw); have m1 := cell_of_block hSw 1; have m2 := cell_of_block hSw 2; go_simp); try with_reducible rfl
  try simp only [Act.put, List.setIfInBounds_toArray, List.set_cons_zero, List.set_cons_succ]
  refine wpAnyH_take (i := 2) (oi := { dst := some 14, op := Op.fieldAddr 27 (Operand.tmp 3) 1, type := 0, pos := "law.go:60", after := #[], guard := none }) (v := ?_) rfl (by kernel_rfl) (by kernel_rfl) (by kernel_rfl) (fun _ _ _ h => h) (Or.inl ⟨by kernel_rfl, ?_⟩) hHeld ?_
  rotate_left
  · (intro w hSw; (try dsimp only at hSw); have m1 := cell_of_block hSw 1; have m2 := cell_of_block hSw 2; go_simp); try with_reducible rfl
  try simp only [Act.put, List.setIfInBounds_toArray, List.set_cons_zero, List.set_cons_succ]
  refine wpAnyH_take (i := 3) (oi := { dst := some 15, op := Op.load 3 (Operand.tmp 14), type := 3, pos := "law.go:60", after := #[{ on := 2, ground := Ground.data }], guard := none }) (v := ?_) rfl (by kernel_rfl) (by kernel_rfl) (by kernel_rfl) (fun _ _ _ h => h) (Or.inl ⟨by kernel_rfl, ?_⟩) hHeld ?_
  rotate_left
  · (intro w hSw; (try dsimp only at hSw); have m1 := cell_of_block hSw 1; have m2 := cell_of_block hSw 2; go_simp); try with_reducible rfl
  try simp only [Act.put, List.setIfInBounds_toArray, List.set_cons_zero, List.set_cons_succ]
  refine wpAnyH_ready (rs := [1]) (by kernel_rfl) (by simp) (AllReadyH.cons (o := { dst := some 13, op := Op.call { callee := Callee.value (Operand.func 20), args := #[Operand.tmp 12], argTypes := #[49] }, type := 3, pos := "law.go:60", after := #[{ on := 0, ground := Ground.data }], guard := none }) rfl (fun K hK => ?_) AllReadyH.nil)
  have hOld := hide hHeld
  clear hHeld
  go_simp
  refine (HNX.out _ RG0.out).mono ?_
  rintro e u1 ⟨rfl, rfl⟩
  (try go_wp2_with fail)
  refine hK.out _ _ (hOld.out) (fun hHeld => ?_)
  clear hK K hOld
  try simp only [Act.put, List.setIfInBounds_toArray, List.set_cons_zero, List.set_cons_succ]
  refine wpAnyH_take (i := 4) (oi := { dst := some 16, op := Op.binOp BinOp.neq 3 (Operand.tmp 13) (Operand.tmp 15) 3, type := 4, pos := "law.go:60", after := #[{ on := 1, ground := Ground.data }, { on := 3, ground := Ground.data }], guard := none }) (v := ?_) rfl (by kernel_rfl) (by kernel_rfl) (by kernel_rfl) (fun _ _ _ h => h) (Or.inl ⟨by kernel_rfl, ?_⟩) hHeld ?_
  rotate_left
  · (intro w hSw; (try dsimp only at hSw); have m1 := cell_of_block hSw 1; have m2 := cell_of_block hSw 2; go_simp); try with_reducible rfl
  try simp only [Act.put, List.setIfInBounds_toArray, List.set_cons_zero, List.set_cons_succ]
  refine wpAnyH_take (i := 5) (oi := { dst := some 17, op := Op.move (Operand.tmp 16), type := 4, pos := "law.go:60", after := #[{ on := 4, ground := Ground.data }, { on := 1, ground := Ground.chain }], guard := none }) (v := ?_) rfl (by kernel_rfl) (by kernel_rfl) (by kernel_rfl) (fun _ _ _ h => h) (Or.inl ⟨by kernel_rfl, ?_⟩) hHeld ?_
  rotate_left
  · (intro w hSw; (try dsimp only at hSw); have m1 := cell_of_block hSw 1; have m2 := cell_of_block hSw 2; go_simp); try with_reducible rfl
  try simp only [Act.put, List.setIfInBounds_toArray, List.set_cons_zero, List.set_cons_succ]
  refine wpAnyH_take (i := 6) (oi := { dst := some 18, op := Op.move (Operand.tmp 5), type := 67, pos := "law.go:60", after := #[{ on := 5, ground := Ground.guard }], guard := some (5, false) }) (v := ?_) rfl (by kernel_rfl) (by kernel_rfl) (by kernel_rfl) (fun _ _ _ h => h) (Or.inl ⟨by kernel_rfl, ?_⟩) hHeld ?_
  rotate_left
  · (intro w hSw; (try dsimp only at hSw); have m1 := cell_of_block hSw 1; have m2 := cell_of_block hSw 2; go_simp); try with_reducible rfl
  try simp only [Act.put, List.setIfInBounds_toArray, List.set_cons_zero, List.set_cons_succ]
  refine wpAnyH_take (i := 7) (oi := { dst := some 19, op := Op.call { callee := Callee.builtin Builtin.len, args := #[Operand.tmp 18], argTypes := #[67] }, type := 3, pos := "law.go:60", after := #[{ on := 6, ground := Ground.data }, { on := 5, ground := Ground.guard }], guard := some (5, false) }) (v := ?_) rfl (by kernel_rfl) (by kernel_rfl) (by kernel_rfl) (fun _ _ _ h => h) (Or.inl ⟨by kernel_rfl, ?_⟩) hHeld ?_
  rotate_left
  · (intro w hSw; (try dsimp only at hSw); have m1 := cell_of_block hSw 1; have m2 := cell_of_block hSw 2; go_simp); try with_reducible rfl
  try simp only [Act.put, List.setIfInBounds_toArray, List.set_cons_zero, List.set_cons_succ]
  refine wpAnyH_take (i := 8) (oi := { dst := some 20, op := Op.fieldAddr 27 (Operand.tmp 3) 2, type := 0, pos := "law.go:60", after := #[{ on := 5, ground := Ground.guard }], guard := some (5, false) }) (v := ?_) rfl (by kernel_rfl) (by kernel_rfl) (by kernel_rfl) (fun _ _ _ h => h) (Or.inl ⟨by kernel_rfl, ?_⟩) hHeld ?_
  rotate_left
  · (intro w hSw; (try dsimp only at hSw); have m1 := cell_of_block hSw 1; have m2 := cell_of_block hSw 2; go_simp); try with_reducible rfl
  try simp only [Act.put, List.setIfInBounds_toArray, List.set_cons_zero, List.set_cons_succ]
  refine wpAnyH_take (i := 9) (oi := { dst := some 21, op := Op.load 25 (Operand.tmp 20), type := 25, pos := "law.go:60", after := #[{ on := 8, ground := Ground.data }, { on := 5, ground := Ground.guard }], guard := some (5, false) }) (v := ?_) rfl (by kernel_rfl) (by kernel_rfl) (by kernel_rfl) (fun _ _ _ h => h) (Or.inl ⟨by kernel_rfl, ?_⟩) hHeld ?_
  rotate_left
  · (intro w hSw; (try dsimp only at hSw); have m1 := cell_of_block hSw 1; have m2 := cell_of_block hSw 2; go_simp); try with_reducible rfl
  try simp only [Act.put, List.setIfInBounds_toArray, List.set_cons_zero, List.set_cons_succ]
  refine wpAnyH_take (i := 10) (oi := { dst := some 22, op := Op.call { callee := Callee.builtin Builtin.len, args := #[Operand.tmp 21], argTypes := #[25] }, type := 3, pos := "law.go:60", after := #[{ on := 9, ground := Ground.data }, { on := 5, ground := Ground.guard }], guard := some (5, false) }) (v := ?_) rfl (by kernel_rfl) (by kernel_rfl) (by kernel_rfl) (fun _ _ _ h => h) (Or.inl ⟨by kernel_rfl, ?_⟩) hHeld ?_
  rotate_left
  · (intro w hSw; (try dsimp only at hSw); have m1 := cell_of_block hSw 1; have m2 := cell_of_block hSw 2; go_simp); try with_reducible rfl
  try simp only [Act.put, List.setIfInBounds_toArray, List.set_cons_zero, List.set_cons_succ]
  refine wpAnyH_take (i := 11) (oi := { dst := some 23, op := Op.binOp BinOp.neq 3 (Operand.tmp 19) (Operand.tmp 22) 3, type := 4, pos := "law.go:60", after := #[{ on := 7, ground := Ground.data }, { on := 10, ground := Ground.data }, { on := 5, ground := Ground.guard }], guard := some (5, false) }) (v := ?_) rfl (by kernel_rfl) (by kernel_rfl) (by kernel_rfl) (fun _ _ _ h => h) (Or.inl ⟨by kernel_rfl, ?_⟩) hHeld ?_
  rotate_left
  · (intro w hSw; (try dsimp only at hSw); have m1 := cell_of_block hSw 1; have m2 := cell_of_block hSw 2; go_simp); try with_reducible rfl
  try simp only [Act.put, List.setIfInBounds_toArray, List.set_cons_zero, List.set_cons_succ]
  refine wpAnyH_take (i := 12) (oi := { dst := some 24, op := Op.pick (Operand.tmp 17) (Operand.const (Value.bool true)) (Operand.tmp 23), type := 4, pos := "law.go:60", after := #[{ on := 5, ground := Ground.data }, { on := 11, ground := Ground.data }], guard := none }) (v := ?_) rfl (by kernel_rfl) (by kernel_rfl) (by kernel_rfl) (fun _ _ _ h => h) (Or.inl ⟨by kernel_rfl, ?_⟩) hHeld ?_
  rotate_left
  · (intro w hSw; (try dsimp only at hSw); have m1 := cell_of_block hSw 1; have m2 := cell_of_block hSw 2; go_simp); try with_reducible rfl
  try simp only [Act.put, List.setIfInBounds_toArray, List.set_cons_zero, List.set_cons_succ]
  refine wpAnyH_done (by kernel_rfl) ?_ _
  clear hHeld

  go_wp2_with fail
  go_loopw [27] (fun i W => ∃ k : Nat, k ≤ n ∧ i = .int .i64 k ∧ Below z0.heap.size z0 W) (fun i _ => n - (intOf i).toNat)
  case atStart => exact ⟨0, by omega, rfl, Below.refl _ _⟩
  case round =>
  obtain ⟨k, hk, rfl, hb⟩ := hrel
  have BR := hide hb
  clear hb
  by_cases hlt : k < n
  · have HKL := hide hlt
    have HKI := hide (show (k : Int) < (n : Int) from by omega)
    obtain ⟨g1, rfl, -, hg1, hc⟩ := owns_rows txC txC_length ta0 (owns_below O0.out BR.out) k (by rw [HLT.out]; exact hlt)
    obtain ⟨g2, rfl, hg2, hc2⟩ := (HD0.out.below BR.out).at k (by rw [HL2.out, HN.out]; exact hlt)
    have hg2' : g2 < z0.heap.size := by
      obtain ⟨g9, hh, hlt9, -⟩ := HD0.out.at k (by rw [HL2.out, HN.out]; exact hlt)
      cases hh
      exact hlt9
    have HG1 := hide hg1
    have HC2 := hide hc2
    have HG2B := hide hg2'
    have HL1 := hide ((LN0.out (T'.getD k ta0) (by have := HLT.out; simp [List.getD, show k < T'.length by omega])).below BR.out)
    have HLR := hide ((HD0.out.lines (T2.getD k ta0) (by have h1 := HL2.out; have h2 := HN.out; simp [List.getD, show k < T2.length by omega])).below BR.out)
    obtain ⟨hin, hfd⟩ := HNUM.out k (by rw [HN.out]; exact hlt)
    have HIN := hide hin
    have HFD := hide hfd
    have HFK := hide (HFW.out k (by rw [HN.out]; exact hlt))
    have h1 := HT1.out k
    have h2 := HT2.out k
    clear hg1 hg2 hc2 hg2' hin hfd
    generalize T'.getD k ta0 = y1 at *
    generalize T2.getD k ta0 = y2 at *
    have HYD := hide (show ∀ i, findT T.length next (T.getD k ta0).t.num = some i → T.getD i ta0 = T.getD k ta0 from fun i hi => by rw [HFD.out] at hi; cases hi; rfl)
    generalize T.getD k ta0 = y0 at *
    obtain ⟨t1, la1, lc1⟩ := y1
    obtain ⟨t2, la2, lc2⟩ := y2
    obtain ⟨t0, la0, lc0⟩ := y0
    dsimp only at h1 h2
    subst h1
    subst h2
    obtain ⟨num, kd, s1, r1, am1, le1, v1, L1⟩ := t2
    dsimp only at HL1 HLR HIN HFK HFD
    have y0 : wr.cell? ⟨g1, k * 8, none⟩ = some (.int .i64 num) := hc 0 (by decide)
    have y1 : wr.cell? ⟨g1, k * 8 + 1, none⟩ = some (.int .u8 kd) := hc 1 (by decide)
    have y2 : wr.cell? ⟨g1, k * 8 + 2, none⟩ = some (.int .i64 s1) := hc 2 (by decide)
    have y3 : wr.cell? ⟨g1, k * 8 + 3, none⟩ = some (.int .i64 r1) := hc 3 (by decide)
    have y4 : wr.cell? ⟨g1, k * 8 + 4, none⟩ = some (.int .i64 am1) := hc 4 (by decide)
    have y5 : wr.cell? ⟨g1, k * 8 + 5, none⟩ = some (.int .i64 le1) := hc 5 (by decide)
    have y6 : wr.cell? ⟨g1, k * 8 + 6, none⟩ = some (.bool v1) := hc 6 (by decide)
    have y7 : wr.cell? ⟨g1, k * 8 + 7, none⟩ = some (.slice la1 L1.length lc1) := hc 7 (by decide)
    have hki := HKI.out
    clear hc hlt
    go_upto_region 7 with (refine rw_store rfl 35 (.tmp 7) (.tmp 31) rfl wr.heap.size rfl #[.int .i64 num, .int .u8 kd, .int .i64 s1, .int .i64 r1, .int .i64 am1, .int .i64 le1, .bool v1, .slice la1 L1.length lc1] rfl _ (heap_new wr (.cells #[.int .i64 0, .int .u8 0, .int .i64 0, .int .i64 0, .int .i64 0, .int .i64 0, .bool false, .slice none 0 0] 35)) (by kernel_rfl) rfl (by simp [Value.oneCell']) ?_)
    have XB := hide (heap_new wr (.cells #[.int .i64 0, .int .u8 0, .int .i64 0, .int .i64 0, .int .i64 0, .int .i64 0, .bool false, .slice none 0 0] 35))
    have hal := (Below.refl wr.heap.size wr).alloc (Nat.le_refl _) (.cells #[.int .i64 0, .int .u8 0, .int .i64 0, .int .i64 0, .int .i64 0, .int .i64 0, .bool false, .slice none 0 0] 35)
    have hbb := setRow_below (hal.trans (Below.refl _ _)) (Nat.le_refl _) hal.size (#[.int .i64 num, .int .u8 kd, .int .i64 s1, .int .i64 r1, .int .i64 am1, .int .i64 le1, .bool v1, .slice la1 L1.length lc1] : Array Value)
    have XT5 := hide (setRow_same (cs := (#[.int .i64 num, .int .u8 kd, .int .i64 s1, .int .i64 r1, .int .i64 am1, .int .i64 le1, .bool v1, .slice la1 L1.length lc1] : Array Value)) XB.out)
    have B5 := hide (BR.out.trans (hbb.mono BR.out.size))
    have L5 := hide (HL1.out.below hbb)
    have R5 := hide (HLR.out.below hbb)
    have C5 := hide (fun j (hj : j < 8) => (show ((wr.alloc (.cells #[.int .i64 0, .int .u8 0, .int .i64 0, .int .i64 0, .int .i64 0, .int .i64 0, .bool false, .slice none 0 0] 35)).setRow wr.heap.size (#[.int .i64 num, .int .u8 kd, .int .i64 s1, .int .i64 r1, .int .i64 am1, .int .i64 le1, .bool v1, .slice la1 L1.length lc1] : Array Value)).cell? ⟨g2, k * 8 + j, none⟩ = (txC ⟨⟨num, kd, s1, r1, am1, le1, v1, L1⟩, la2, lc2⟩)[j]? from (hbb.cell (p := ⟨g2, k * 8 + j, none⟩) (show g2 < wr.heap.size by have h1 := HG2B.out; have h2 := BR.out.size; omega)).trans (HC2.out j hj)))
    clear hal hbb XB HL1 HLR HC2 y0 y1 y2 y3 y4 y5 y6 y7
    generalize (wr.alloc (.cells #[.int .i64 0, .int .u8 0, .int .i64 0, .int .i64 0, .int .i64 0, .int .i64 0, .bool false, .slice none 0 0] 35)).setRow wr.heap.size (#[.int .i64 num, .int .u8 kd, .int .i64 s1, .int .i64 r1, .int .i64 am1, .int .i64 le1, .bool v1, .slice la1 L1.length lc1] : Array Value) = w5 at *
    generalize wr.heap.size = tb at *
    have t0 := cell_of_block XT5.out 0
    have RG5 := hide (RG0.out.below B5.out)
    go_wp2_with fail
    refine (HGT.out num HIN.out _ RG5.out).mono ?_
    intro e w6 hg
    rcases hg with ⟨hn9, -, -⟩ | ⟨i, la3, lc3, hf, hi, rfl, hln, hb⟩
    · rw [HFD.out] at hn9; cases hn9
    have hyd := HYD.out i hf
    rw [hyd] at hln ⊢
    dsimp only at hln ⊢
    have XT6 := hide ((hb.block _ (heap_lt XT5.out)).trans XT5.out)
    have B6 := hide (B5.out.trans (hb.mono B5.out.size))
    have L6 := hide (L5.out.below hb)
    have R6 := hide (R5.out.below hb)
    have L36 := hide hln
    have C6 := hide (fun j (hj : j < 8) => (show w6.cell? ⟨g2, k * 8 + j, none⟩ = (txC ⟨⟨num, kd, s1, r1, am1, le1, v1, L1⟩, la2, lc2⟩)[j]? from (hb.cell (p := ⟨g2, k * 8 + j, none⟩) (show g2 < w5.heap.size by have h1 := HG2B.out; have h2 := B5.out.size; omega)).trans (C5.out j hj)))
    clear hb hln hf hi hyd XT5 B5 L5 R5 C5 t0 RG5 HYD HFD
    unfold txV txC
    go_upto_region 8 with (refine rw_store rfl 35 (.tmp 8) (.tmp 37) rfl w6.heap.size rfl #[.int .i64 num, .int .u8 kd, .int .i64 s1, .int .i64 r1, .int .i64 am1, .int .i64 le1, .bool v1, .slice la3 L1.length lc3] rfl _ (heap_new w6 (.cells #[.int .i64 0, .int .u8 0, .int .i64 0, .int .i64 0, .int .i64 0, .int .i64 0, .bool false, .slice none 0 0] 35)) (by kernel_rfl) rfl (by simp [Value.oneCell']) ?_)
    have XB := hide (heap_new w6 (.cells #[.int .i64 0, .int .u8 0, .int .i64 0, .int .i64 0, .int .i64 0, .int .i64 0, .bool false, .slice none 0 0] 35))
    have hal := (Below.refl w6.heap.size w6).alloc (Nat.le_refl _) (.cells #[.int .i64 0, .int .u8 0, .int .i64 0, .int .i64 0, .int .i64 0, .int .i64 0, .bool false, .slice none 0 0] 35)
    have hbb := setRow_below (hal.trans (Below.refl _ _)) (Nat.le_refl _) hal.size (#[.int .i64 num, .int .u8 kd, .int .i64 s1, .int .i64 r1, .int .i64 am1, .int .i64 le1, .bool v1, .slice la3 L1.length lc3] : Array Value)
    have XX7 := hide (setRow_same (cs := (#[.int .i64 num, .int .u8 kd, .int .i64 s1, .int .i64 r1, .int .i64 am1, .int .i64 le1, .bool v1, .slice la3 L1.length lc3] : Array Value)) XB.out)
    have XT7 := hide ((hbb.block _ (heap_lt XT6.out)).trans XT6.out)
    have B7 := hide (B6.out.trans (hbb.mono B6.out.size))
    have L7 := hide (L6.out.below hbb)
    have R7 := hide (R6.out.below hbb)
    have L37 := hide (L36.out.below hbb)
    have C7 := hide (fun j (hj : j < 8) => (show ((w6.alloc (.cells #[.int .i64 0, .int .u8 0, .int .i64 0, .int .i64 0, .int .i64 0, .int .i64 0, .bool false, .slice none 0 0] 35)).setRow w6.heap.size (#[.int .i64 num, .int .u8 kd, .int .i64 s1, .int .i64 r1, .int .i64 am1, .int .i64 le1, .bool v1, .slice la3 L1.length lc3] : Array Value)).cell? ⟨g2, k * 8 + j, none⟩ = (txC ⟨⟨num, kd, s1, r1, am1, le1, v1, L1⟩, la2, lc2⟩)[j]? from (hbb.cell (p := ⟨g2, k * 8 + j, none⟩) (show g2 < w6.heap.size by have h1 := HG2B.out; have h2 := B6.out.size; omega)).trans (C6.out j hj)))
    clear hal hbb XB XT6 B6 L6 R6 L36 C6
    generalize (w6.alloc (.cells #[.int .i64 0, .int .u8 0, .int .i64 0, .int .i64 0, .int .i64 0, .int .i64 0, .bool false, .slice none 0 0] 35)).setRow w6.heap.size (#[.int .i64 num, .int .u8 kd, .int .i64 s1, .int .i64 r1, .int .i64 am1, .int .i64 le1, .bool v1, .slice la3 L1.length lc3] : Array Value) = w7 at *
    generalize w6.heap.size = xb at *
    have XM7 := hide ((B7.out.block _ (heap_lt X0.out)).trans X0.out)
    have XT0 := hide (show w7.drew.heap[tb]? = _ from XT7.out)
    have XX0 := hide (show w7.drew.heap[xb]? = _ from XX7.out)
    have XM0 := hide (show w7.drew.heap[mb]? = _ from XM7.out)
    have RC0 := hide (show (fun W : World => W.cell? ⟨g2, k * 8, none⟩ = some (.int .i64 num) ∧ W.cell? ⟨g2, k * 8 + 1, none⟩ = some (.int .u8 kd) ∧ W.cell? ⟨g2, k * 8 + 2, none⟩ = some (.int .i64 s1) ∧ W.cell? ⟨g2, k * 8 + 3, none⟩ = some (.int .i64 r1) ∧ W.cell? ⟨g2, k * 8 + 4, none⟩ = some (.int .i64 am1) ∧ W.cell? ⟨g2, k * 8 + 5, none⟩ = some (.int .i64 le1) ∧ W.cell? ⟨g2, k * 8 + 6, none⟩ = some (.bool v1) ∧ W.cell? ⟨g2, k * 8 + 7, none⟩ = some (.slice la2 L1.length lc2)) w7.drew from ⟨C7.out 0 (by decide), C7.out 1 (by decide), C7.out 2 (by decide), C7.out 3 (by decide), C7.out 4 (by decide), C7.out 5 (by decide), C7.out 6 (by decide), C7.out 7 (by decide)⟩)
    have BU0 := hide (show Below z0.heap.size z0 w7.drew from B7.out.drew)
    have BQ0 := hide (Below.refl w7.drew.heap.size w7.drew)
    have HG2 := hide (show g2 < z0.heap.size ∧ z0.heap.size ≤ w7.drew.heap.size from ⟨HG2B.out, BU0.out.size⟩)
    have HE1 := hide (fun W (hb : Below w7.drew.heap.size w7.drew W) => (equal_any ⟨num, kd, s1, r1, am1, le1, v1, L1⟩ HFK.out la1 la2 lc1 lc2 W (LnT.below (w := w7.drew) L7.out hb).lnIn (LnTy.below (w := w7.drew) R7.out hb).lnIn))
    have HE2 := hide (fun W (hb : Below w7.drew.heap.size w7.drew W) => (equal_any ⟨num, kd, s1, r1, am1, le1, v1, L1⟩ HFK.out la3 la2 lc3 lc2 W (LnT.below (w := w7.drew) L37.out hb).lnIn (LnTy.below (w := w7.drew) R7.out hb).lnIn))
    clear XT7 XX7 XM7 C7 L7 R7 L37
    refine wp_region_held_drew (S := (fun W => W.heap[tb]? = some (.cells #[.int .i64 num, .int .u8 kd, .int .i64 s1, .int .i64 r1, .int .i64 am1, .int .i64 le1, .bool v1, .slice la1 L1.length lc1] 35 (0, 0)) ∧ W.heap[xb]? = some (.cells #[.int .i64 num, .int .u8 kd, .int .i64 s1, .int .i64 r1, .int .i64 am1, .int .i64 le1, .bool v1, .slice la3 L1.length lc3] 35 (0, 0)) ∧ W.heap[mb]? = some (.cells #[.int .i64 keep2, .int .i64 next, .slice (some ⟨g2, 0, none⟩) n cp2] 27 (0, 0)) ∧ W.cell? ⟨g2, k * 8, none⟩ = some (.int .i64 num) ∧ W.cell? ⟨g2, k * 8 + 1, none⟩ = some (.int .u8 kd) ∧ W.cell? ⟨g2, k * 8 + 2, none⟩ = some (.int .i64 s1) ∧ W.cell? ⟨g2, k * 8 + 3, none⟩ = some (.int .i64 r1) ∧ W.cell? ⟨g2, k * 8 + 4, none⟩ = some (.int .i64 am1) ∧ W.cell? ⟨g2, k * 8 + 5, none⟩ = some (.int .i64 le1) ∧ W.cell? ⟨g2, k * 8 + 6, none⟩ = some (.bool v1) ∧ W.cell? ⟨g2, k * 8 + 7, none⟩ = some (.slice la2 L1.length lc2))) (by kernel_rfl) (⟨XT0.out, XX0.out, XM0.out, RC0.out⟩) (fun hHeld => ?_)
    generalize w7.drew = q0 at *
    refine wpAnyH_take (i := 0) (oi := { dst := some 39, op := Op.move (Operand.tmp 9), type := 4, pos := "law.go:65", after := #[], guard := none }) (v := ?_) rfl (by kernel_rfl) (by kernel_rfl) (by kernel_rfl) (fun _ _ _ h => h) (Or.inl ⟨by kernel_rfl, ?_⟩) hHeld ?_
    rotate_left
    · (intro w hSw; (try dsimp only at hSw); obtain ⟨hp1, hp2, hp3, r0, r1, r2, r3, r4, r5, r6, r7⟩ := hSw; have e0 := cell_of_block hp1 0; have e1 := cell_of_block hp1 1; have e2 := cell_of_block hp1 2; have e3 := cell_of_block hp1 3; have e4 := cell_of_block hp1 4; have e5 := cell_of_block hp1 5; have e6 := cell_of_block hp1 6; have e7 := cell_of_block hp1 7; have f0 := cell_of_block hp2 0; have f1 := cell_of_block hp2 1; have f2 := cell_of_block hp2 2; have f3 := cell_of_block hp2 3; have f4 := cell_of_block hp2 4; have f5 := cell_of_block hp2 5; have f6 := cell_of_block hp2 6; have f7 := cell_of_block hp2 7; have m2 := cell_of_block hp3 2; go_simp); try with_reducible rfl
    try simp only [Act.put, List.setIfInBounds_toArray, List.set_cons_zero, List.set_cons_succ]
    refine wpAnyH_take (i := 1) (oi := { dst := some 40, op := Op.unOp UnOp.not 4 (Operand.tmp 39), type := 4, pos := "law.go:65", after := #[{ on := 0, ground := Ground.data }], guard := none }) (v := ?_) rfl (by kernel_rfl) (by kernel_rfl) (by kernel_rfl) (fun _ _ _ h => h) (Or.inl ⟨by kernel_rfl, ?_⟩) hHeld ?_
    rotate_left
    · (intro w hSw; (try dsimp only at hSw); obtain ⟨hp1, hp2, hp3, r0, r1, r2, r3, r4, r5, r6, r7⟩ := hSw; have e0 := cell_of_block hp1 0; have e1 := cell_of_block hp1 1; have e2 := cell_of_block hp1 2; have e3 := cell_of_block hp1 3; have e4 := cell_of_block hp1 4; have e5 := cell_of_block hp1 5; have e6 := cell_of_block hp1 6; have e7 := cell_of_block hp1 7; have f0 := cell_of_block hp2 0; have f1 := cell_of_block hp2 1; have f2 := cell_of_block hp2 2; have f3 := cell_of_block hp2 3; have f4 := cell_of_block hp2 4; have f5 := cell_of_block hp2 5; have f6 := cell_of_block hp2 6; have f7 := cell_of_block hp2 7; have m2 := cell_of_block hp3 2; go_simp); try with_reducible rfl
    try simp only [Act.put, List.setIfInBounds_toArray, List.set_cons_zero, List.set_cons_succ]
    refine wpAnyH_take (i := 2) (oi := { dst := some 41, op := Op.move (Operand.tmp 40), type := 4, pos := "law.go:65", after := #[{ on := 1, ground := Ground.data }], guard := none }) (v := ?_) rfl (by kernel_rfl) (by kernel_rfl) (by kernel_rfl) (fun _ _ _ h => h) (Or.inl ⟨by kernel_rfl, ?_⟩) hHeld ?_
    rotate_left
    · (intro w hSw; (try dsimp only at hSw); obtain ⟨hp1, hp2, hp3, r0, r1, r2, r3, r4, r5, r6, r7⟩ := hSw; have e0 := cell_of_block hp1 0; have e1 := cell_of_block hp1 1; have e2 := cell_of_block hp1 2; have e3 := cell_of_block hp1 3; have e4 := cell_of_block hp1 4; have e5 := cell_of_block hp1 5; have e6 := cell_of_block hp1 6; have e7 := cell_of_block hp1 7; have f0 := cell_of_block hp2 0; have f1 := cell_of_block hp2 1; have f2 := cell_of_block hp2 2; have f3 := cell_of_block hp2 3; have f4 := cell_of_block hp2 4; have f5 := cell_of_block hp2 5; have f6 := cell_of_block hp2 6; have f7 := cell_of_block hp2 7; have m2 := cell_of_block hp3 2; go_simp); try with_reducible rfl
    try simp only [Act.put, List.setIfInBounds_toArray, List.set_cons_zero, List.set_cons_succ]
    refine wpAnyH_take (i := 3) (oi := { dst := some 42, op := Op.load 35 (Operand.tmp 7), type := 35, pos := "law.go:65", after := #[{ on := 2, ground := Ground.guard }], guard := some (2, false) }) (v := ?_) rfl (by kernel_rfl) (by kernel_rfl) (by kernel_rfl) (fun _ _ _ h => h) (Or.inl ⟨by kernel_rfl, ?_⟩) hHeld ?_
    rotate_left
    · (intro w hSw; (try dsimp only at hSw); obtain ⟨hp1, hp2, hp3, r0, r1, r2, r3, r4, r5, r6, r7⟩ := hSw; have e0 := cell_of_block hp1 0; have e1 := cell_of_block hp1 1; have e2 := cell_of_block hp1 2; have e3 := cell_of_block hp1 3; have e4 := cell_of_block hp1 4; have e5 := cell_of_block hp1 5; have e6 := cell_of_block hp1 6; have e7 := cell_of_block hp1 7; have f0 := cell_of_block hp2 0; have f1 := cell_of_block hp2 1; have f2 := cell_of_block hp2 2; have f3 := cell_of_block hp2 3; have f4 := cell_of_block hp2 4; have f5 := cell_of_block hp2 5; have f6 := cell_of_block hp2 6; have f7 := cell_of_block hp2 7; have m2 := cell_of_block hp3 2; go_simp); try with_reducible rfl
    try simp only [Act.put, List.setIfInBounds_toArray, List.set_cons_zero, List.set_cons_succ]
    refine wpAnyH_take (i := 4) (oi := { dst := some 43, op := Op.fieldAddr 27 (Operand.tmp 3) 2, type := 0, pos := "law.go:65", after := #[{ on := 2, ground := Ground.guard }], guard := some (2, false) }) (v := ?_) rfl (by kernel_rfl) (by kernel_rfl) (by kernel_rfl) (fun _ _ _ h => h) (Or.inl ⟨by kernel_rfl, ?_⟩) hHeld ?_
    rotate_left
    · (intro w hSw; (try dsimp only at hSw); obtain ⟨hp1, hp2, hp3, r0, r1, r2, r3, r4, r5, r6, r7⟩ := hSw; have e0 := cell_of_block hp1 0; have e1 := cell_of_block hp1 1; have e2 := cell_of_block hp1 2; have e3 := cell_of_block hp1 3; have e4 := cell_of_block hp1 4; have e5 := cell_of_block hp1 5; have e6 := cell_of_block hp1 6; have e7 := cell_of_block hp1 7; have f0 := cell_of_block hp2 0; have f1 := cell_of_block hp2 1; have f2 := cell_of_block hp2 2; have f3 := cell_of_block hp2 3; have f4 := cell_of_block hp2 4; have f5 := cell_of_block hp2 5; have f6 := cell_of_block hp2 6; have f7 := cell_of_block hp2 7; have m2 := cell_of_block hp3 2; go_simp); try with_reducible rfl
    try simp only [Act.put, List.setIfInBounds_toArray, List.set_cons_zero, List.set_cons_succ]
    refine wpAnyH_take (i := 5) (oi := { dst := some 44, op := Op.load 25 (Operand.tmp 43), type := 25, pos := "law.go:65", after := #[{ on := 4, ground := Ground.data }, { on := 2, ground := Ground.guard }], guard := some (2, false) }) (v := ?_) rfl (by kernel_rfl) (by kernel_rfl) (by kernel_rfl) (fun _ _ _ h => h) (Or.inl ⟨by kernel_rfl, ?_⟩) hHeld ?_
    rotate_left
    · (intro w hSw; (try dsimp only at hSw); obtain ⟨hp1, hp2, hp3, r0, r1, r2, r3, r4, r5, r6, r7⟩ := hSw; have e0 := cell_of_block hp1 0; have e1 := cell_of_block hp1 1; have e2 := cell_of_block hp1 2; have e3 := cell_of_block hp1 3; have e4 := cell_of_block hp1 4; have e5 := cell_of_block hp1 5; have e6 := cell_of_block hp1 6; have e7 := cell_of_block hp1 7; have f0 := cell_of_block hp2 0; have f1 := cell_of_block hp2 1; have f2 := cell_of_block hp2 2; have f3 := cell_of_block hp2 3; have f4 := cell_of_block hp2 4; have f5 := cell_of_block hp2 5; have f6 := cell_of_block hp2 6; have f7 := cell_of_block hp2 7; have m2 := cell_of_block hp3 2; go_simp); try with_reducible rfl
    try simp only [Act.put, List.setIfInBounds_toArray, List.set_cons_zero, List.set_cons_succ]
    refine wpAnyH_take (i := 6) (oi := { dst := some 45, op := Op.move (Operand.tmp 6), type := 3, pos := "law.go:65", after := #[{ on := 2, ground := Ground.guard }], guard := some (2, false) }) (v := ?_) rfl (by kernel_rfl) (by kernel_rfl) (by kernel_rfl) (fun _ _ _ h => h) (Or.inl ⟨by kernel_rfl, ?_⟩) hHeld ?_
    rotate_left
    · (intro w hSw; (try dsimp only at hSw); obtain ⟨hp1, hp2, hp3, r0, r1, r2, r3, r4, r5, r6, r7⟩ := hSw; have e0 := cell_of_block hp1 0; have e1 := cell_of_block hp1 1; have e2 := cell_of_block hp1 2; have e3 := cell_of_block hp1 3; have e4 := cell_of_block hp1 4; have e5 := cell_of_block hp1 5; have e6 := cell_of_block hp1 6; have e7 := cell_of_block hp1 7; have f0 := cell_of_block hp2 0; have f1 := cell_of_block hp2 1; have f2 := cell_of_block hp2 2; have f3 := cell_of_block hp2 3; have f4 := cell_of_block hp2 4; have f5 := cell_of_block hp2 5; have f6 := cell_of_block hp2 6; have f7 := cell_of_block hp2 7; have m2 := cell_of_block hp3 2; go_simp); try with_reducible rfl
    try simp only [Act.put, List.setIfInBounds_toArray, List.set_cons_zero, List.set_cons_succ]
    refine wpAnyH_take (i := 7) (oi := { dst := some 46, op := Op.indexAddr 25 (Operand.tmp 44) (Operand.tmp 45), type := 0, pos := "law.go:65", after := #[{ on := 5, ground := Ground.data }, { on := 6, ground := Ground.data }, { on := 2, ground := Ground.guard }], guard := some (2, false) }) (v := ?_) rfl (by kernel_rfl) (by kernel_rfl) (by kernel_rfl) (fun _ _ _ h => h) (Or.inl ⟨by kernel_rfl, ?_⟩) hHeld ?_
    rotate_left
    · (intro w hSw; (try dsimp only at hSw); obtain ⟨hp1, hp2, hp3, r0, r1, r2, r3, r4, r5, r6, r7⟩ := hSw; have e0 := cell_of_block hp1 0; have e1 := cell_of_block hp1 1; have e2 := cell_of_block hp1 2; have e3 := cell_of_block hp1 3; have e4 := cell_of_block hp1 4; have e5 := cell_of_block hp1 5; have e6 := cell_of_block hp1 6; have e7 := cell_of_block hp1 7; have f0 := cell_of_block hp2 0; have f1 := cell_of_block hp2 1; have f2 := cell_of_block hp2 2; have f3 := cell_of_block hp2 3; have f4 := cell_of_block hp2 4; have f5 := cell_of_block hp2 5; have f6 := cell_of_block hp2 6; have f7 := cell_of_block hp2 7; have m2 := cell_of_block hp3 2; go_simp); try with_reducible rfl
    try simp only [Act.put, List.setIfInBounds_toArray, List.set_cons_zero, List.set_cons_succ]
    refine wpAnyH_take (i := 8) (oi := { dst := some 47, op := Op.load 38 (Operand.tmp 46), type := 38, pos := "law.go:65", after := #[{ on := 7, ground := Ground.data }, { on := 2, ground := Ground.guard }], guard := some (2, false) }) (v := ?_) rfl (by kernel_rfl) (by kernel_rfl) (by kernel_rfl) (fun _ _ _ h => h) (Or.inl ⟨by kernel_rfl, ?_⟩) hHeld ?_
    rotate_left
    · (intro w hSw; (try dsimp only at hSw); obtain ⟨hp1, hp2, hp3, r0, r1, r2, r3, r4, r5, r6, r7⟩ := hSw; have e0 := cell_of_block hp1 0; have e1 := cell_of_block hp1 1; have e2 := cell_of_block hp1 2; have e3 := cell_of_block hp1 3; have e4 := cell_of_block hp1 4; have e5 := cell_of_block hp1 5; have e6 := cell_of_block hp1 6; have e7 := cell_of_block hp1 7; have f0 := cell_of_block hp2 0; have f1 := cell_of_block hp2 1; have f2 := cell_of_block hp2 2; have f3 := cell_of_block hp2 3; have f4 := cell_of_block hp2 4; have f5 := cell_of_block hp2 5; have f6 := cell_of_block hp2 6; have f7 := cell_of_block hp2 7; have m2 := cell_of_block hp3 2; go_simp); try with_reducible rfl
    try simp only [Act.put, List.setIfInBounds_toArray, List.set_cons_zero, List.set_cons_succ]
    refine wpAnyH_ready (rs := [9]) (by kernel_rfl) (by simp) (AllReadyH.cons (o := { dst := some 48, op := Op.call { callee := Callee.value (Operand.func 36), args := #[Operand.tmp 42, Operand.tmp 47], argTypes := #[35, 38] }, type := 4, pos := "law.go:65", after := #[{ on := 3, ground := Ground.data }, { on := 8, ground := Ground.data }, { on := 2, ground := Ground.chain }, { on := 2, ground := Ground.guard }], guard := some (2, false) }) rfl (fun K hK => ?_) AllReadyH.nil)
    have hOld := hide hHeld
    clear hHeld
    go_simp
    refine (HE1.out _ BQ0.out).mono ?_
    rintro e u1 ⟨rfl, hb⟩
    have HK1 := hide (s8_below hOld.out (show g2 < z0.heap.size ∧ z0.heap.size ≤ _ from ⟨HG2.out.1, Nat.le_trans HG2.out.2 BQ0.out.size⟩) hb)
    have BU1 := hide (BQ0.out.trans (hb.mono BQ0.out.size))
    clear hb
    (try go_wp2_with fail)
    refine hK.out _ _ (HK1.out) (fun hHeld => ?_)
    clear hK K hOld
    try simp only [Act.put, List.setIfInBounds_toArray, List.set_cons_zero, List.set_cons_succ]
    refine wpAnyH_take (i := 10) (oi := { dst := some 49, op := Op.unOp UnOp.not 4 (Operand.tmp 48), type := 4, pos := "law.go:65", after := #[{ on := 9, ground := Ground.data }, { on := 2, ground := Ground.guard }], guard := some (2, false) }) (v := ?_) rfl (by kernel_rfl) (by kernel_rfl) (by kernel_rfl) (fun _ _ _ h => h) (Or.inl ⟨by kernel_rfl, ?_⟩) hHeld ?_
    rotate_left
    · (intro w hSw; (try dsimp only at hSw); obtain ⟨hp1, hp2, hp3, r0, r1, r2, r3, r4, r5, r6, r7⟩ := hSw; have e0 := cell_of_block hp1 0; have e1 := cell_of_block hp1 1; have e2 := cell_of_block hp1 2; have e3 := cell_of_block hp1 3; have e4 := cell_of_block hp1 4; have e5 := cell_of_block hp1 5; have e6 := cell_of_block hp1 6; have e7 := cell_of_block hp1 7; have f0 := cell_of_block hp2 0; have f1 := cell_of_block hp2 1; have f2 := cell_of_block hp2 2; have f3 := cell_of_block hp2 3; have f4 := cell_of_block hp2 4; have f5 := cell_of_block hp2 5; have f6 := cell_of_block hp2 6; have f7 := cell_of_block hp2 7; have m2 := cell_of_block hp3 2; go_simp); try with_reducible rfl
    try simp only [Act.put, List.setIfInBounds_toArray, List.set_cons_zero, List.set_cons_succ]
    refine wpAnyH_take (i := 11) (oi := { dst := some 50, op := Op.pick (Operand.tmp 41) (Operand.const (Value.bool true)) (Operand.tmp 49), type := 4, pos := "law.go:65", after := #[{ on := 2, ground := Ground.data }, { on := 10, ground := Ground.data }], guard := none }) (v := ?_) rfl (by kernel_rfl) (by kernel_rfl) (by kernel_rfl) (fun _ _ _ h => h) (Or.inl ⟨by kernel_rfl, ?_⟩) hHeld ?_
    rotate_left
    · (intro w hSw; (try dsimp only at hSw); obtain ⟨hp1, hp2, hp3, r0, r1, r2, r3, r4, r5, r6, r7⟩ := hSw; have e0 := cell_of_block hp1 0; have e1 := cell_of_block hp1 1; have e2 := cell_of_block hp1 2; have e3 := cell_of_block hp1 3; have e4 := cell_of_block hp1 4; have e5 := cell_of_block hp1 5; have e6 := cell_of_block hp1 6; have e7 := cell_of_block hp1 7; have f0 := cell_of_block hp2 0; have f1 := cell_of_block hp2 1; have f2 := cell_of_block hp2 2; have f3 := cell_of_block hp2 3; have f4 := cell_of_block hp2 4; have f5 := cell_of_block hp2 5; have f6 := cell_of_block hp2 6; have f7 := cell_of_block hp2 7; have m2 := cell_of_block hp3 2; go_simp); try with_reducible rfl
    try simp only [Act.put, List.setIfInBounds_toArray, List.set_cons_zero, List.set_cons_succ]
    refine wpAnyH_take (i := 12) (oi := { dst := some 51, op := Op.move (Operand.tmp 50), type := 4, pos := "law.go:65", after := #[{ on := 11, ground := Ground.data }, { on := 9, ground := Ground.chain }], guard := none }) (v := ?_) rfl (by kernel_rfl) (by kernel_rfl) (by kernel_rfl) (fun _ _ _ h => h) (Or.inl ⟨by kernel_rfl, ?_⟩) hHeld ?_
    rotate_left
    · (intro w hSw; (try dsimp only at hSw); obtain ⟨hp1, hp2, hp3, r0, r1, r2, r3, r4, r5, r6, r7⟩ := hSw; have e0 := cell_of_block hp1 0; have e1 := cell_of_block hp1 1; have e2 := cell_of_block hp1 2; have e3 := cell_of_block hp1 3; have e4 := cell_of_block hp1 4; have e5 := cell_of_block hp1 5; have e6 := cell_of_block hp1 6; have e7 := cell_of_block hp1 7; have f0 := cell_of_block hp2 0; have f1 := cell_of_block hp2 1; have f2 := cell_of_block hp2 2; have f3 := cell_of_block hp2 3; have f4 := cell_of_block hp2 4; have f5 := cell_of_block hp2 5; have f6 := cell_of_block hp2 6; have f7 := cell_of_block hp2 7; have m2 := cell_of_block hp3 2; go_simp); try with_reducible rfl
    try simp only [Act.put, List.setIfInBounds_toArray, List.set_cons_zero, List.set_cons_succ]
    refine wpAnyH_take (i := 13) (oi := { dst := some 52, op := Op.load 35 (Operand.tmp 8), type := 35, pos := "law.go:65", after := #[{ on := 12, ground := Ground.guard }], guard := some (12, false) }) (v := ?_) rfl (by kernel_rfl) (by kernel_rfl) (by kernel_rfl) (fun _ _ _ h => h) (Or.inl ⟨by kernel_rfl, ?_⟩) hHeld ?_
    rotate_left
    · (intro w hSw; (try dsimp only at hSw); obtain ⟨hp1, hp2, hp3, r0, r1, r2, r3, r4, r5, r6, r7⟩ := hSw; have e0 := cell_of_block hp1 0; have e1 := cell_of_block hp1 1; have e2 := cell_of_block hp1 2; have e3 := cell_of_block hp1 3; have e4 := cell_of_block hp1 4; have e5 := cell_of_block hp1 5; have e6 := cell_of_block hp1 6; have e7 := cell_of_block hp1 7; have f0 := cell_of_block hp2 0; have f1 := cell_of_block hp2 1; have f2 := cell_of_block hp2 2; have f3 := cell_of_block hp2 3; have f4 := cell_of_block hp2 4; have f5 := cell_of_block hp2 5; have f6 := cell_of_block hp2 6; have f7 := cell_of_block hp2 7; have m2 := cell_of_block hp3 2; go_simp); try with_reducible rfl
    try simp only [Act.put, List.setIfInBounds_toArray, List.set_cons_zero, List.set_cons_succ]
    refine wpAnyH_take (i := 14) (oi := { dst := some 53, op := Op.fieldAddr 27 (Operand.tmp 3) 2, type := 0, pos := "law.go:65", after := #[{ on := 12, ground := Ground.guard }], guard := some (12, false) }) (v := ?_) rfl (by kernel_rfl) (by kernel_rfl) (by kernel_rfl) (fun _ _ _ h => h) (Or.inl ⟨by kernel_rfl, ?_⟩) hHeld ?_
    rotate_left
    · (intro w hSw; (try dsimp only at hSw); obtain ⟨hp1, hp2, hp3, r0, r1, r2, r3, r4, r5, r6, r7⟩ := hSw; have e0 := cell_of_block hp1 0; have e1 := cell_of_block hp1 1; have e2 := cell_of_block hp1 2; have e3 := cell_of_block hp1 3; have e4 := cell_of_block hp1 4; have e5 := cell_of_block hp1 5; have e6 := cell_of_block hp1 6; have e7 := cell_of_block hp1 7; have f0 := cell_of_block hp2 0; have f1 := cell_of_block hp2 1; have f2 := cell_of_block hp2 2; have f3 := cell_of_block hp2 3; have f4 := cell_of_block hp2 4; have f5 := cell_of_block hp2 5; have f6 := cell_of_block hp2 6; have f7 := cell_of_block hp2 7; have m2 := cell_of_block hp3 2; go_simp); try with_reducible rfl
    try simp only [Act.put, List.setIfInBounds_toArray, List.set_cons_zero, List.set_cons_succ]
    refine wpAnyH_take (i := 15) (oi := { dst := some 54, op := Op.load 25 (Operand.tmp 53), type := 25, pos := "law.go:65", after := #[{ on := 14, ground := Ground.data }, { on := 12, ground := Ground.guard }], guard := some (12, false) }) (v := ?_) rfl (by kernel_rfl) (by kernel_rfl) (by kernel_rfl) (fun _ _ _ h => h) (Or.inl ⟨by kernel_rfl, ?_⟩) hHeld ?_
    rotate_left
    · (intro w hSw; (try dsimp only at hSw); obtain ⟨hp1, hp2, hp3, r0, r1, r2, r3, r4, r5, r6, r7⟩ := hSw; have e0 := cell_of_block hp1 0; have e1 := cell_of_block hp1 1; have e2 := cell_of_block hp1 2; have e3 := cell_of_block hp1 3; have e4 := cell_of_block hp1 4; have e5 := cell_of_block hp1 5; have e6 := cell_of_block hp1 6; have e7 := cell_of_block hp1 7; have f0 := cell_of_block hp2 0; have f1 := cell_of_block hp2 1; have f2 := cell_of_block hp2 2; have f3 := cell_of_block hp2 3; have f4 := cell_of_block hp2 4; have f5 := cell_of_block hp2 5; have f6 := cell_of_block hp2 6; have f7 := cell_of_block hp2 7; have m2 := cell_of_block hp3 2; go_simp); try with_reducible rfl
    try simp only [Act.put, List.setIfInBounds_toArray, List.set_cons_zero, List.set_cons_succ]
    refine wpAnyH_take (i := 16) (oi := { dst := some 55, op := Op.move (Operand.tmp 6), type := 3, pos := "law.go:65", after := #[{ on := 12, ground := Ground.guard }], guard := some (12, false) }) (v := ?_) rfl (by kernel_rfl) (by kernel_rfl) (by kernel_rfl) (fun _ _ _ h => h) (Or.inl ⟨by kernel_rfl, ?_⟩) hHeld ?_
    rotate_left
    · (intro w hSw; (try dsimp only at hSw); obtain ⟨hp1, hp2, hp3, r0, r1, r2, r3, r4, r5, r6, r7⟩ := hSw; have e0 := cell_of_block hp1 0; have e1 := cell_of_block hp1 1; have e2 := cell_of_block hp1 2; have e3 := cell_of_block hp1 3; have e4 := cell_of_block hp1 4; have e5 := cell_of_block hp1 5; have e6 := cell_of_block hp1 6; have e7 := cell_of_block hp1 7; have f0 := cell_of_block hp2 0; have f1 := cell_of_block hp2 1; have f2 := cell_of_block hp2 2; have f3 := cell_of_block hp2 3; have f4 := cell_of_block hp2 4; have f5 := cell_of_block hp2 5; have f6 := cell_of_block hp2 6; have f7 := cell_of_block hp2 7; have m2 := cell_of_block hp3 2; go_simp); try with_reducible rfl
    try simp only [Act.put, List.setIfInBounds_toArray, List.set_cons_zero, List.set_cons_succ]
    refine wpAnyH_take (i := 17) (oi := { dst := some 56, op := Op.indexAddr 25 (Operand.tmp 54) (Operand.tmp 55), type := 0, pos := "law.go:65", after := #[{ on := 15, ground := Ground.data }, { on := 16, ground := Ground.data }, { on := 12, ground := Ground.guard }], guard := some (12, false) }) (v := ?_) rfl (by kernel_rfl) (by kernel_rfl) (by kernel_rfl) (fun _ _ _ h => h) (Or.inl ⟨by kernel_rfl, ?_⟩) hHeld ?_
    rotate_left
    · (intro w hSw; (try dsimp only at hSw); obtain ⟨hp1, hp2, hp3, r0, r1, r2, r3, r4, r5, r6, r7⟩ := hSw; have e0 := cell_of_block hp1 0; have e1 := cell_of_block hp1 1; have e2 := cell_of_block hp1 2; have e3 := cell_of_block hp1 3; have e4 := cell_of_block hp1 4; have e5 := cell_of_block hp1 5; have e6 := cell_of_block hp1 6; have e7 := cell_of_block hp1 7; have f0 := cell_of_block hp2 0; have f1 := cell_of_block hp2 1; have f2 := cell_of_block hp2 2; have f3 := cell_of_block hp2 3; have f4 := cell_of_block hp2 4; have f5 := cell_of_block hp2 5; have f6 := cell_of_block hp2 6; have f7 := cell_of_block hp2 7; have m2 := cell_of_block hp3 2; go_simp); try with_reducible rfl
    try simp only [Act.put, List.setIfInBounds_toArray, List.set_cons_zero, List.set_cons_succ]
    refine wpAnyH_take (i := 18) (oi := { dst := some 57, op := Op.load 38 (Operand.tmp 56), type := 38, pos := "law.go:65", after := #[{ on := 17, ground := Ground.data }, { on := 12, ground := Ground.guard }], guard := some (12, false) }) (v := ?_) rfl (by kernel_rfl) (by kernel_rfl) (by kernel_rfl) (fun _ _ _ h => h) (Or.inl ⟨by kernel_rfl, ?_⟩) hHeld ?_
    rotate_left
    · (intro w hSw; (try dsimp only at hSw); obtain ⟨hp1, hp2, hp3, r0, r1, r2, r3, r4, r5, r6, r7⟩ := hSw; have e0 := cell_of_block hp1 0; have e1 := cell_of_block hp1 1; have e2 := cell_of_block hp1 2; have e3 := cell_of_block hp1 3; have e4 := cell_of_block hp1 4; have e5 := cell_of_block hp1 5; have e6 := cell_of_block hp1 6; have e7 := cell_of_block hp1 7; have f0 := cell_of_block hp2 0; have f1 := cell_of_block hp2 1; have f2 := cell_of_block hp2 2; have f3 := cell_of_block hp2 3; have f4 := cell_of_block hp2 4; have f5 := cell_of_block hp2 5; have f6 := cell_of_block hp2 6; have f7 := cell_of_block hp2 7; have m2 := cell_of_block hp3 2; go_simp); try with_reducible rfl
    try simp only [Act.put, List.setIfInBounds_toArray, List.set_cons_zero, List.set_cons_succ]
    refine wpAnyH_ready (rs := [19]) (by kernel_rfl) (by simp) (AllReadyH.cons (o := { dst := some 58, op := Op.call { callee := Callee.value (Operand.func 36), args := #[Operand.tmp 52, Operand.tmp 57], argTypes := #[35, 38] }, type := 4, pos := "law.go:65", after := #[{ on := 13, ground := Ground.data }, { on := 18, ground := Ground.data }, { on := 12, ground := Ground.chain }, { on := 12, ground := Ground.guard }], guard := some (12, false) }) rfl (fun K hK => ?_) AllReadyH.nil)
    have hOld := hide hHeld
    clear hHeld
    go_simp
    refine (HE2.out _ BU1.out).mono ?_
    rintro e u2 ⟨rfl, hb⟩
    have HK2 := hide (s8_below hOld.out (show g2 < z0.heap.size ∧ z0.heap.size ≤ _ from ⟨HG2.out.1, Nat.le_trans HG2.out.2 BU1.out.size⟩) hb)
    have BU2 := hide (BU1.out.trans (hb.mono BU1.out.size))
    clear hb
    (try go_wp2_with fail)
    refine hK.out _ _ (HK2.out) (fun hHeld => ?_)
    clear hK K hOld
    try simp only [Act.put, List.setIfInBounds_toArray, List.set_cons_zero, List.set_cons_succ]
    refine wpAnyH_take (i := 20) (oi := { dst := some 59, op := Op.unOp UnOp.not 4 (Operand.tmp 58), type := 4, pos := "law.go:65", after := #[{ on := 19, ground := Ground.data }, { on := 12, ground := Ground.guard }], guard := some (12, false) }) (v := ?_) rfl (by kernel_rfl) (by kernel_rfl) (by kernel_rfl) (fun _ _ _ h => h) (Or.inl ⟨by kernel_rfl, ?_⟩) hHeld ?_
    rotate_left
    · (intro w hSw; (try dsimp only at hSw); obtain ⟨hp1, hp2, hp3, r0, r1, r2, r3, r4, r5, r6, r7⟩ := hSw; have e0 := cell_of_block hp1 0; have e1 := cell_of_block hp1 1; have e2 := cell_of_block hp1 2; have e3 := cell_of_block hp1 3; have e4 := cell_of_block hp1 4; have e5 := cell_of_block hp1 5; have e6 := cell_of_block hp1 6; have e7 := cell_of_block hp1 7; have f0 := cell_of_block hp2 0; have f1 := cell_of_block hp2 1; have f2 := cell_of_block hp2 2; have f3 := cell_of_block hp2 3; have f4 := cell_of_block hp2 4; have f5 := cell_of_block hp2 5; have f6 := cell_of_block hp2 6; have f7 := cell_of_block hp2 7; have m2 := cell_of_block hp3 2; go_simp); try with_reducible rfl
    try simp only [Act.put, List.setIfInBounds_toArray, List.set_cons_zero, List.set_cons_succ]
    refine wpAnyH_take (i := 21) (oi := { dst := some 60, op := Op.pick (Operand.tmp 51) (Operand.const (Value.bool true)) (Operand.tmp 59), type := 4, pos := "law.go:65", after := #[{ on := 12, ground := Ground.data }, { on := 20, ground := Ground.data }], guard := none }) (v := ?_) rfl (by kernel_rfl) (by kernel_rfl) (by kernel_rfl) (fun _ _ _ h => h) (Or.inl ⟨by kernel_rfl, ?_⟩) hHeld ?_
    rotate_left
    · (intro w hSw; (try dsimp only at hSw); obtain ⟨hp1, hp2, hp3, r0, r1, r2, r3, r4, r5, r6, r7⟩ := hSw; have e0 := cell_of_block hp1 0; have e1 := cell_of_block hp1 1; have e2 := cell_of_block hp1 2; have e3 := cell_of_block hp1 3; have e4 := cell_of_block hp1 4; have e5 := cell_of_block hp1 5; have e6 := cell_of_block hp1 6; have e7 := cell_of_block hp1 7; have f0 := cell_of_block hp2 0; have f1 := cell_of_block hp2 1; have f2 := cell_of_block hp2 2; have f3 := cell_of_block hp2 3; have f4 := cell_of_block hp2 4; have f5 := cell_of_block hp2 5; have f6 := cell_of_block hp2 6; have f7 := cell_of_block hp2 7; have m2 := cell_of_block hp3 2; go_simp); try with_reducible rfl
    try simp only [Act.put, List.setIfInBounds_toArray, List.set_cons_zero, List.set_cons_succ]
    refine wpAnyH_done (by kernel_rfl) ?_ _
    clear hHeld

    have hbd : IntKind.i64.wrap ((k : Int) + 1) = (k : Int) + 1 := by rw [IntKind.wrap_i64]; have := HFEW.out; have := HKL.out; omega
    have BZ := hide (BU0.out.trans (BU2.out.mono BU0.out.size))
    go_wp2_with fail
    go_roundw
    case rel => exact ⟨k + 1, HKL.out, by go_num, BZ.out⟩
    case measure => have := HKL.out; simp [intOf]; omega
  · obtain rfl : k = n := by omega
    go_wp2_with fail
    go_ret
    exact ⟨rfl, B0.out.trans (BR.out.mono B0.out.size)⟩
end Go.Proofs.Ytbnbfnlfgmlcgaa
