/-
  Layer 25: Find, Back; lists of numbers.
-/
import Derived.Test.YtbnbfnlfgmlcgaaSaleB
--import Derived.Test.Zdbg
namespace Go.Proofs.Ytbnbfnlfgmlcgaa
set_option linter.unusedSimpArgs false
set_option linter.unusedVariables false
open Go.RowKit Go.WideShapes Go.ChangeShapes Go.ChangeAt Go.Deep

theorem TellsT.mono {f : FuncId} {bd ac : Array Value} {g : TxM → Bool} {I J : World → Prop} (h : TellsT f bd ac g I) (hj : ∀ W, J W → I W) : TellsT f bd ac g J := fun x W h1 h2 h3 => h x W h1 h2 (hj W h3)
/-- a list of numbers in memory -/
def IntsIn (w : World) (a : Option Addr) (l : List Int) : Prop := ∀ i, i < l.length → ∃ b off, a = some ⟨b, off, none⟩ ∧ b < w.heap.size ∧ w.cell? ⟨b, off + i, none⟩ = some (.int .i64 (l.getD i 0))
theorem IntsIn.below {w w' : World} {a : Option Addr} {l : List Int} (h : IntsIn w a l) (hb : Below w.heap.size w w') : IntsIn w' a l := fun i hi => by
  obtain ⟨b, off, h1, h2, h3⟩ := h i hi
  exact ⟨b, off, h1, Nat.lt_of_lt_of_le h2 hb.size, cell_keep h3 h2 hb⟩
theorem IntsIn.of_owns {w : World} {B m c : Nat} {a : Option Addr} {l : List Int} (h : w.ownsRow B 3 1 (.slice a m c) l.length (l.map (Value.int .i64))) : IntsIn w a l := fun i hi => by
  rcases h.2 with ⟨hv, hn⟩ | ⟨g, cap', cur, hv, hB, hg, hnc, _, hsz, hx⟩
  · omega
  · simp only [Value.slice.injEq] at hv
    obtain ⟨rfl, -, -⟩ := hv
    refine ⟨g, 0, rfl, heap_lt hg, ?_⟩
    rw [Nat.zero_add]
    rw [cell_of_block hg]
    have h1 : (cur.toList.take (l.length * 1))[i]? = (l.map (Value.int .i64))[i]? := by rw [hx]
    rw [List.getElem?_take, if_pos (by omega)] at h1
    simp only [Array.getElem?_toList, List.getElem?_map, List.getElem?_eq_getElem hi, Option.map_some] at h1
    rw [h1]
    simp [List.getD, hi]
def FoundIs (l : List Int) (w : World) (e : Ending) (w' : World) : Prop := ∃ (a : Option Addr) (c : Nat), e = .returned (.slice a l.length c) ∧ IntsIn w' a l ∧ Below w.heap.size w w'
/-- kinds in a block below n -/
def KLow (n : Nat) (a : Option Addr) (K : List Int) (W : World) : Prop := ∀ i, i < K.length → ∃ b off, a = some ⟨b, off, none⟩ ∧ b < n ∧ W.cell? ⟨b, off + i, none⟩ = some (.int .u8 (K.getD i 0))
theorem KLow.kinds {n : Nat} {a : Option Addr} {K : List Int} {W : World} (h : KLow n a K W) : KindsIn W a K := fun i hi => by
  obtain ⟨b, off, h1, h2, h3⟩ := h i hi
  exact ⟨b, off, h1, World.block_lt_of_cell? W _ h3, h3⟩
theorem KLow.low {n : Nat} {a : Option Addr} {K : List Int} {W W' : World} (h : KLow n a K W) (hb : Below n W W') : KLow n a K W' := fun i hi => by
  obtain ⟨b, off, h1, h2, h3⟩ := h i hi
  exact ⟨b, off, h1, h2, (hb.cell (p := ⟨b, off + i, none⟩) h2).trans h3⟩
set_option maxRecDepth 100000 in
theorem slfind_ask (q : AskM) (hK : q.K.length ≤ 10) (B p : Nat) (keep next : Int) (v : Value) (T : List TxA) (w : World) (h : RegAt w B p keep next v T) (hk : KindsIn w q.ka q.K) :
    Calls Try.prog 25 #[.pointer (some ⟨p, 0, none⟩), askV q] w (FoundIs (wantM (wantsT q) (T.map (·.t))) w) := by
  obtain ⟨oa, hoa⟩ : ∃ ob, ob = (Obj.cells #[.slice q.ka q.K.length q.kc, .int .i64 q.s, .int .i64 q.a, .int .i64 q.l, .int .i64 q.m, .bool q.o] 78) := ⟨_, rfl⟩
  have al := (Below.refl w.heap.size w).alloc (Nat.le_refl _) oa
  have XA := hide (show (w.alloc oa).heap[w.heap.size]? = some (.cells #[.slice q.ka q.K.length q.kc, .int .i64 q.s, .int .i64 q.a, .int .i64 q.l, .int .i64 q.m, .bool q.o] 78 (0, 0)) by rw [heap_new, hoa])
  have RG := hide (h.below al)
  have KI := hide (hk.below al)
  have BW := hide al
  have HTW := hide (show TellsT 48 #[askV q] #[] (wantsT q) (KLow (w.alloc oa).heap.size q.ka q.K) from (wants_tells q hK).mono fun W hW => hW.kinds)
  have HN := hide (numbers_with 48 (enters Try.func48 (by kernel_rfl) rfl) #[askV q] #[] (wantsT q) (KLow (w.alloc oa).heap.size q.ka q.K) (w.alloc oa) (fun W W' hW hs hb => hW.low hb) HTW.out B p keep next v T RG.out KI.out)
  generalize wantM (wantsT q) (T.map (·.t)) = l at *
  have HSZ := hide (show w.heap.size ≤ (w.alloc oa).heap.size by simp)
  clear al h hk HTW
  obtain ⟨K, ka, kc, qs, qa, q0, q1, qo⟩ := q
  unfold askV at *
  dsimp only at *
  go_enter Try.func25, Try.ntmps25
  go_upto_region 1 with (fail)
  rw [← hoa]
  generalize w.alloc oa = w1 at *
  generalize hpq : w.heap.size = pq at *
  have HPQ := hide hpq
  clear hoa oa hpq
  have e0 := cell_of_block XA.out 0
  have e1 := cell_of_block XA.out 1
  have e2 := cell_of_block XA.out 2
  have e3 := cell_of_block XA.out 3
  have e4 := cell_of_block XA.out 4
  have e5 := cell_of_block XA.out 5
  go_wp2_with fail
  refine HN.out.mono ?_
  rintro e w2 ⟨a, c, rfl, ho, hb⟩
  have LI := hide (IntsIn.of_owns ho)
  have B2 := hide (BW.out.trans (hb.mono HSZ.out))
  clear ho hb
  go_wp2_with fail
  go_ret
  exact ⟨a, c, rfl, LI.out, by rw [HPQ.out]; exact B2.out⟩
def backsT (n : Int) (t : TxM) : Bool := backT t.kind && decide (t.ref = n)
set_option maxRecDepth 100000 in
theorem back1_tells (n : Int) (q : Nat) : TellsT 49 #[] #[.pointer (some ⟨q, 0, none⟩)] (backsT n) (fun W => W.cell? ⟨q, 0, none⟩ = some (.int .i64 n)) := by
  intro x w hx hl hc
  obtain ⟨⟨num, kind, shift, ref, amt, left, void, L⟩, la, lc⟩ := x
  have hq : q < w.heap.size := World.block_lt_of_cell? w _ hc
  clear hl hx
  show Calls Try.prog 49 #[.agg #[.int .i64 num, .int .u8 kind, .int .i64 shift, .int .i64 ref, .int .i64 amt, .int .i64 left, .bool void, .slice la L.length lc], .pointer (some ⟨q, 0, none⟩)] w fun e w' => e = .returned (.bool (backT kind && decide (ref = n))) ∧ Below w.heap.size w w'
  obtain ⟨ob, hob⟩ : ∃ ob, ob = (Obj.cells #[.int .i64 num, .int .u8 kind, .int .i64 shift, .int .i64 ref, .int .i64 amt, .int .i64 left, .bool void, .slice la L.length lc] 35) := ⟨_, rfl⟩
  have al := (Below.refl w.heap.size w).alloc (Nat.le_refl _) ob
  have XT := hide (show (w.alloc ob).heap[w.heap.size]? = some (.cells #[.int .i64 num, .int .u8 kind, .int .i64 shift, .int .i64 ref, .int .i64 amt, .int .i64 left, .bool void, .slice la L.length lc] 35 (0, 0)) by rw [heap_new, hob])
  have HC := hide ((al.cell (p := ⟨q, 0, none⟩) hq).trans hc)
  have BW := hide al
  clear al hc hq
  go_enter Try.func49, Try.ntmps49
  go_upto_region 1 with (fail)
  rw [← hob]
  generalize w.alloc ob = w1 at *
  generalize hq : w.heap.size = pq at *
  have HQ := hide hq
  clear hob ob hq
  have d1 := cell_of_block XT.out 1
  have d3 := cell_of_block XT.out 3
  have hc := HC.out
  go_wp2_with fail
  refine (kback_any kind w1).mono ?_
  rintro e w2 ⟨rfl, rfl⟩
  cases hbk : backT kind with
  | false =>
    go_wp2_with fail
    go_ret
    exact ⟨by rw [hbk]; rfl, by rw [HQ.out]; exact BW.out⟩
  | true =>
    go_wp2_with fail
    go_ret
    exact ⟨by rw [hbk, Bool.true_and, ← beq_dec]; rfl, by rw [HQ.out]; exact BW.out⟩
set_option maxRecDepth 100000 in
theorem slback_any (n : Int) (B p : Nat) (keep next : Int) (v : Value) (T : List TxA) (w : World) (h : RegAt w B p keep next v T) :
    Calls Try.prog 26 #[.pointer (some ⟨p, 0, none⟩), .int .i64 n] w (FoundIs (wantM (backsT n) (T.map (·.t))) w) := by
  have al := (Below.refl w.heap.size w).alloc (Nat.le_refl _) (.cells #[.int .i64 n] 3)
  have X := heap_new w (.cells #[.int .i64 n] 3)
  have HN := hide (numbers_with 49 (enters Try.func49 (by kernel_rfl) rfl) #[] #[.pointer (some ⟨w.heap.size, 0, none⟩)] (backsT n) _ (w.alloc (.cells #[.int .i64 n] 3)) (fun W W' hW hs hb => (hb.cell (p := ⟨w.heap.size, 0, none⟩) (heap_lt X)).trans hW) (back1_tells n w.heap.size) B p keep next v T (h.below al) (cell_of_block X 0))
  have BW := hide al
  have HSZ := hide (show w.heap.size ≤ (w.alloc (.cells #[.int .i64 n] 3)).heap.size by simp)
  generalize wantM (backsT n) (T.map (·.t)) = l at *
  clear X al h
  go_enter Try.func26, Try.ntmps26
  go_wp2_with fail
  refine HN.out.mono ?_
  rintro e w2 ⟨a, c, rfl, ho, hb⟩
  have LI := hide (IntsIn.of_owns ho)
  have B2 := hide (BW.out.trans (hb.mono HSZ.out))
  clear ho hb
  go_wp2_with fail
  go_ret
  exact ⟨a, c, rfl, LI.out, B2.out⟩
set_option maxRecDepth 100000 in
theorem numbers_nil (fn : Value) (w : World) : Calls Try.prog 47 #[.pointer none, fn] w fun e w' => e = .returned (.slice none 0 0) ∧ w = w' := by
  go_enter Try.func47, Try.ntmps47
  go_wp2_with fail
  go_ret
  exact ⟨rfl, rfl⟩
set_option maxRecDepth 100000 in
theorem slfind_nil (q : AskM) (w : World) : Calls Try.prog 25 #[.pointer none, askV q] w fun e w' => e = .returned (.slice none 0 0) ∧ Below w.heap.size w w' := by
  obtain ⟨K, ka, kc, qs, qa, q0, q1, qo⟩ := q
  unfold askV
  dsimp only
  have al := hide ((Below.refl w.heap.size w).alloc (Nat.le_refl _) (.cells #[.slice ka K.length kc, .int .i64 qs, .int .i64 qa, .int .i64 q0, .int .i64 q1, .bool qo] 78))
  go_enter Try.func25, Try.ntmps25
  go_wp2_with fail
  refine (numbers_nil _ _).mono ?_
  rintro e w2 ⟨rfl, rfl⟩
  go_wp2_with fail
  go_ret
  exact ⟨rfl, al.out⟩
set_option maxRecDepth 100000 in
theorem slback_nil (n : Int) (w : World) : Calls Try.prog 26 #[.pointer none, .int .i64 n] w fun e w' => e = .returned (.slice none 0 0) ∧ Below w.heap.size w w' := by
  have al := hide ((Below.refl w.heap.size w).alloc (Nat.le_refl _) (.cells #[.int .i64 n] 3))
  go_enter Try.func26, Try.ntmps26
  go_wp2_with fail
  refine (numbers_nil _ _).mono ?_
  rintro e w2 ⟨rfl, rfl⟩
  go_wp2_with fail
  go_ret
  exact ⟨rfl, al.out⟩
set_option maxRecDepth 100000 in
set_option maxHeartbeats 1000000 in
theorem list25 (l : List Int) (hl : l.length ≤ 600) (a1 a2 : Option Addr) (c1 c2 : Nat) (w : World) (h1 : IntsIn w a1 l) (h2 : IntsIn w a2 l) :
    Calls Try.prog 24 #[.slice a1 l.length c1, .slice a2 l.length c2] w fun e w' => e = .returned (.bool true) ∧ ∃ m, w' = w.drewN m := by
  have H1 := hide h1
  have H2 := hide h2
  clear h1 h2
  go_enter Try.func24, Try.ntmps24
  go_wp2_with fail
  go_loopw [13] (fun i W => ∃ k m : Nat, k ≤ l.length ∧ i = .int .i64 k ∧ W = w.drewN m) (fun i _ => l.length - (intOf i).toNat)
  case atStart => exact ⟨0, 0, by omega, rfl, rfl⟩
  case round =>
    obtain ⟨k, m, hk, rfl, rfl⟩ := hrel
    by_cases hlt : k < l.length
    · obtain ⟨b1, o1, rfl, -, g1⟩ := H1.out k hlt
      obtain ⟨b2, o2, rfl, -, g2⟩ := H2.out k hlt
      generalize l.getD k 0 = x at *
      have C1 := hide (show (w.drewN m).drew.cell? ⟨b1, o1 + k, none⟩ = some (.int .i64 x) from g1)
      have C2 := hide (show (w.drewN m).drew.cell? ⟨b2, o2 + k, none⟩ = some (.int .i64 x) from g2)
      have HK1 := hide hlt
      have HK2 := hide hl
      clear g1 g2
      go_upto_region 6 with (fail)
      refine wp_region_held_drew (S := (fun W => W.cell? ⟨b1, o1 + k, none⟩ = some (.int .i64 x) ∧ W.cell? ⟨b2, o2 + k, none⟩ = some (.int .i64 x))) (by kernel_rfl) (⟨C1.out, C2.out⟩) (fun hHeld => ?_)
      refine wpAnyH_take (i := 0) (oi := { dst := some 16, op := Op.move (Operand.tmp 0), type := 45, pos := "law.go:209", after := #[], guard := none }) (v := ?_) rfl (by kernel_rfl) (by kernel_rfl) (by kernel_rfl) (fun _ _ _ h => h) (Or.inl ⟨by kernel_rfl, ?_⟩) hHeld ?_
      rotate_left
      · (intro w hSw; (try dsimp only at hSw); obtain ⟨hc1, hc2⟩ := hSw; have hk1 := HK1.out; have hk2 := HK2.out; go_simp); try with_reducible rfl
      try simp only [Act.put, List.setIfInBounds_toArray, List.set_cons_zero, List.set_cons_succ]
      refine wpAnyH_take (i := 1) (oi := { dst := some 17, op := Op.move (Operand.tmp 5), type := 3, pos := "law.go:209", after := #[], guard := none }) (v := ?_) rfl (by kernel_rfl) (by kernel_rfl) (by kernel_rfl) (fun _ _ _ h => h) (Or.inl ⟨by kernel_rfl, ?_⟩) hHeld ?_
      rotate_left
      · (intro w hSw; (try dsimp only at hSw); obtain ⟨hc1, hc2⟩ := hSw; have hk1 := HK1.out; have hk2 := HK2.out; go_simp); try with_reducible rfl
      try simp only [Act.put, List.setIfInBounds_toArray, List.set_cons_zero, List.set_cons_succ]
      refine wpAnyH_take (i := 2) (oi := { dst := some 18, op := Op.indexAddr 45 (Operand.tmp 16) (Operand.tmp 17), type := 0, pos := "law.go:209", after := #[{ on := 0, ground := Ground.data }, { on := 1, ground := Ground.data }], guard := none }) (v := ?_) rfl (by kernel_rfl) (by kernel_rfl) (by kernel_rfl) (fun _ _ _ h => h) (Or.inl ⟨by kernel_rfl, ?_⟩) hHeld ?_
      rotate_left
      · (intro w hSw; (try dsimp only at hSw); obtain ⟨hc1, hc2⟩ := hSw; have hk1 := HK1.out; have hk2 := HK2.out; go_simp); try with_reducible rfl
      try simp only [Act.put, List.setIfInBounds_toArray, List.set_cons_zero, List.set_cons_succ]
      refine wpAnyH_take (i := 3) (oi := { dst := some 19, op := Op.load 3 (Operand.tmp 18), type := 3, pos := "law.go:209", after := #[{ on := 2, ground := Ground.data }], guard := none }) (v := ?_) rfl (by kernel_rfl) (by kernel_rfl) (by kernel_rfl) (fun _ _ _ h => h) (Or.inl ⟨by kernel_rfl, ?_⟩) hHeld ?_
      rotate_left
      · (intro w hSw; (try dsimp only at hSw); obtain ⟨hc1, hc2⟩ := hSw; have hk1 := HK1.out; have hk2 := HK2.out; go_simp); try with_reducible rfl
      try simp only [Act.put, List.setIfInBounds_toArray, List.set_cons_zero, List.set_cons_succ]
      refine wpAnyH_take (i := 4) (oi := { dst := some 20, op := Op.move (Operand.tmp 1), type := 45, pos := "law.go:209", after := #[], guard := none }) (v := ?_) rfl (by kernel_rfl) (by kernel_rfl) (by kernel_rfl) (fun _ _ _ h => h) (Or.inl ⟨by kernel_rfl, ?_⟩) hHeld ?_
      rotate_left
      · (intro w hSw; (try dsimp only at hSw); obtain ⟨hc1, hc2⟩ := hSw; have hk1 := HK1.out; have hk2 := HK2.out; go_simp); try with_reducible rfl
      try simp only [Act.put, List.setIfInBounds_toArray, List.set_cons_zero, List.set_cons_succ]
      refine wpAnyH_take (i := 5) (oi := { dst := some 21, op := Op.move (Operand.tmp 5), type := 3, pos := "law.go:209", after := #[], guard := none }) (v := ?_) rfl (by kernel_rfl) (by kernel_rfl) (by kernel_rfl) (fun _ _ _ h => h) (Or.inl ⟨by kernel_rfl, ?_⟩) hHeld ?_
      rotate_left
      · (intro w hSw; (try dsimp only at hSw); obtain ⟨hc1, hc2⟩ := hSw; have hk1 := HK1.out; have hk2 := HK2.out; go_simp); try with_reducible rfl
      try simp only [Act.put, List.setIfInBounds_toArray, List.set_cons_zero, List.set_cons_succ]
      refine wpAnyH_take (i := 6) (oi := { dst := some 22, op := Op.indexAddr 45 (Operand.tmp 20) (Operand.tmp 21), type := 0, pos := "law.go:209", after := #[{ on := 4, ground := Ground.data }, { on := 5, ground := Ground.data }], guard := none }) (v := ?_) rfl (by kernel_rfl) (by kernel_rfl) (by kernel_rfl) (fun _ _ _ h => h) (Or.inl ⟨by kernel_rfl, ?_⟩) hHeld ?_
      rotate_left
      · (intro w hSw; (try dsimp only at hSw); obtain ⟨hc1, hc2⟩ := hSw; have hk1 := HK1.out; have hk2 := HK2.out; go_simp); try with_reducible rfl
      try simp only [Act.put, List.setIfInBounds_toArray, List.set_cons_zero, List.set_cons_succ]
      refine wpAnyH_take (i := 7) (oi := { dst := some 23, op := Op.load 3 (Operand.tmp 22), type := 3, pos := "law.go:209", after := #[{ on := 6, ground := Ground.data }], guard := none }) (v := ?_) rfl (by kernel_rfl) (by kernel_rfl) (by kernel_rfl) (fun _ _ _ h => h) (Or.inl ⟨by kernel_rfl, ?_⟩) hHeld ?_
      rotate_left
      · (intro w hSw; (try dsimp only at hSw); obtain ⟨hc1, hc2⟩ := hSw; have hk1 := HK1.out; have hk2 := HK2.out; go_simp); try with_reducible rfl
      try simp only [Act.put, List.setIfInBounds_toArray, List.set_cons_zero, List.set_cons_succ]
      refine wpAnyH_take (i := 8) (oi := { dst := some 24, op := Op.binOp BinOp.neq 3 (Operand.tmp 19) (Operand.tmp 23) 3, type := 4, pos := "law.go:209", after := #[{ on := 3, ground := Ground.data }, { on := 7, ground := Ground.data }], guard := none }) (v := ?_) rfl (by kernel_rfl) (by kernel_rfl) (by kernel_rfl) (fun _ _ _ h => h) (Or.inl ⟨by kernel_rfl, ?_⟩) hHeld ?_
      rotate_left
      · (intro w hSw; (try dsimp only at hSw); obtain ⟨hc1, hc2⟩ := hSw; have hk1 := HK1.out; have hk2 := HK2.out; go_simp); try with_reducible rfl
      try simp only [Act.put, List.setIfInBounds_toArray, List.set_cons_zero, List.set_cons_succ]
      refine wpAnyH_done (by kernel_rfl) ?_ _
      clear hHeld
      go_wp2_with fail
      go_roundw
      case rel => exact ⟨k + 1, m + 1, by omega, by go_num, rfl⟩
      case measure => simp [intOf]; omega
    · obtain rfl : k = l.length := by omega
      go_wp2_with fail
      go_ret
      exact ⟨rfl, m, rfl⟩
def IntsV5 (v : Value) : Prop := ∃ x0 x1 x2 x3 x4 : Int, v = .agg #[.int .i64 x0, .int .i64 x1, .int .i64 x2, .int .i64 x3, .int .i64 x4] ∧ inR x0 ∧ inR x1 ∧ inR x2 ∧ inR x3 ∧ inR x4
theorem open_int5 {H : Type} {enc : TypeId × Value → H} {P : Program} {w : World} {base : Nat} {sp : Nat → Bool} {held : Bool} {r : Reach} {b0 : Nat} {t e : TypeId} {v : Value} {d : DataW H} {ps : List MemPlace}
    (ht : P.underlying t = some (.array 5 e)) (he : P.underlying e = some (.int .i64)) (hc : P.cellsOf e = 1) (hct : P.cellsOf t = 5) (hv : Value.okWide P w r b0 t v) (h : DataW.Trod enc P w base sp held t v d ps) : IntsV5 v := by
  simp only [Value.okWide, ht] at hv
  obtain ⟨cs, rfl, hsz, -⟩ := hv
  obtain ⟨fuel, hh⟩ := h
  obtain ⟨xs, m, -, -, hl, hxl, hat⟩ := DataW.trod_array ht hh
  rw [hct] at hsz
  obtain ⟨l⟩ := cs
  match l, hsz, hat with
  | [c0, c1, c2, c3, c4], _, hat =>
    have get : ∀ i, i < 5 → ∀ c, ([c0, c1, c2, c3, c4].drop i).take 1 = [c] → ∃ x, c = .int .i64 x ∧ inR x := by
      intro i hi c hc1
      have h1 := hat i hi
      rw [hc, Nat.mul_one] at h1
      have h2 : DataW.trod enc P w base sp held m e [c] = xs[i]? := by rw [← hc1]; exact h1
      rw [List.getElem?_eq_getElem (by omega)] at h2
      obtain ⟨n, hn, -, hw⟩ := DataW.trod_int he h2
      simp at hn
      exact ⟨n, hn, wf_i64 hw⟩
    obtain ⟨x0, rfl, i0⟩ := get 0 (by decide) c0 rfl
    obtain ⟨x1, rfl, i1⟩ := get 1 (by decide) c1 rfl
    obtain ⟨x2, rfl, i2⟩ := get 2 (by decide) c2 rfl
    obtain ⟨x3, rfl, i3⟩ := get 3 (by decide) c3 rfl
    obtain ⟨x4, rfl, i4⟩ := get 4 (by decide) c4 rfl
    exact ⟨x0, x1, x2, x3, x4, rfl, i0, i1, i2, i3, i4⟩
set_option maxRecDepth 100000 in
theorem open_ask5 {H : Type} {enc : TypeId × Value → H} {w : World} {base : Nat} {sp : Nat → Bool} {held : Bool} {r : Reach} {b0 : Nat} {v : Value} {d : DataW H} {ps : List MemPlace}
    (hv : Value.okWide Try.prog w r b0 75 v) (h : DataW.Trod enc Try.prog w base sp held 75 v d ps) : IntsV5 v := open_int5 Try.underlying75 Try.underlying3 (by kernel_rfl) (by kernel_rfl) hv h
end Go.Proofs.Ytbnbfnlfgmlcgaa
