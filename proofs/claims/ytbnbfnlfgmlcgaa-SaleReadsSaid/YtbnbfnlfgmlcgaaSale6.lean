/-
  Layer 25: the law's transactions; wakes.
-/
import Derived.Test.YtbnbfnlfgmlcgaaSale5
--import Derived.Test.Zdbg
namespace Go.Proofs.Ytbnbfnlfgmlcgaa
set_option linter.unusedSimpArgs false
set_option linter.unusedVariables false
open Go.RowKit Go.WideShapes Go.ChangeShapes Go.ChangeAt Go.Deep

/-- the document's lines in blocks of their own type -/
def LnR (w : World) (a : Option Addr) (L : List LnM) : Prop := ∀ i, i < L.length → ∃ (b off : Nat) (c : Array Value) (fz : Nat × Nat), a = some ⟨b, off, none⟩ ∧ w.heap[b]? = some (.cells c 87 fz) ∧ c[off + i * 2]? = some (.int .i64 (L.getD i ln0).c) ∧ c[off + i * 2 + 1]? = some (.int .i64 (L.getD i ln0).n)
theorem LnR.lnIn {w : World} {a : Option Addr} {L : List LnM} (h : LnR w a L) : LnIn w a L := fun i hi => by
  obtain ⟨b, off, c, fz, ha, hb, h1, h2⟩ := h i hi
  exact ⟨b, off, ha, heap_lt hb, (cell_of_block hb _).trans h1, (cell_of_block hb _).trans h2⟩
theorem LnR.keepsT {Ts : List TypeId} {w w' : World} {a : Option Addr} {L : List LnM} (h : LnR w a L) (hk : KeepsT Ts w w') (ht : 87 ∉ Ts) : LnR w' a L := fun i hi => by
  obtain ⟨b, off, c, fz, ha, hb, h1, h2⟩ := h i hi
  exact ⟨b, off, c, fz, ha, hk.cells hb ht, h1, h2⟩
theorem LnR.below {w w' : World} {a : Option Addr} {L : List LnM} (h : LnR w a L) (hb : Below w.heap.size w w') : LnR w' a L := fun i hi => by
  obtain ⟨b, off, c, fz, ha, hbk, h1, h2⟩ := h i hi
  exact ⟨b, off, c, fz, ha, (hb.block _ (heap_lt hbk)).trans hbk, h1, h2⟩
theorem LnR.nil (w : World) (a : Option Addr) : LnR w a [] := fun i hi => absurd hi (Nat.not_lt_zero i)
theorem LnT.one1 {w : World} {q : Nat} {c n : Int} {fz : Nat × Nat} (h : w.heap[q]? = some (.cells #[.int .i64 c, .int .i64 n] 80 fz)) : LnT w (some ⟨q, 0, none⟩) [⟨c, n⟩] := fun i hi => by
  obtain rfl : i = 0 := by simpa using hi
  exact ⟨q, 0, _, _, rfl, h, rfl, rfl⟩
theorem LnR.one1 {w : World} {q : Nat} {c n : Int} {fz : Nat × Nat} (h : w.heap[q]? = some (.cells #[.int .i64 c, .int .i64 n] 87 fz)) : LnR w (some ⟨q, 0, none⟩) [⟨c, n⟩] := fun i hi => by
  obtain rfl : i = 0 := by simpa using hi
  exact ⟨q, 0, _, _, rfl, h, rfl, rfl⟩
def ofL (c : Int) : List LnM := if c = 0 then [] else [⟨c, 3⟩]
def ofTx (k s r a c : Int) : TxM := ⟨77, k, s, r, a, 9, true, ofL c⟩
theorem ofL_few (c : Int) : (ofL c).length ≤ 1 := by unfold ofL; split <;> simp
theorem ofTx_ok {k s r a c : Int} (hk : 0 ≤ k ∧ k ≤ 255) (hs : inR s) (hr : inR r) (ha : inR a) (hc : inR c) : TxOk (ofTx k s r a c) := by
  refine ⟨by unfold inR ofTx; dsimp only; omega, hk, hs, hr, ha, by unfold inR ofTx; dsimp only; omega, by have := ofL_few c; show (ofL c).length ≤ 1000; omega, fun x hx => ?_⟩
  have hx' : x ∈ ofL c := hx
  unfold ofL at hx'
  split at hx'
  · cases hx'
  · rw [List.mem_singleton.1 hx']
    exact ⟨hc, by unfold inR; dsimp only; omega⟩
def OfIs (k s r a c : Int) (w : World) (e : Ending) (w' : World) : Prop := ∃ (la : Option Addr) (lc : Nat) (lb : Option Addr) (bc : Nat), e = .returned (.tuple #[txV ⟨ofTx k s r a c, la, lc⟩, .agg #[.int .i64 0, .int .u8 k, .int .i64 s, .int .i64 r, .int .i64 a, .int .i64 0, .bool false, .slice lb (ofL c).length bc]]) ∧ LnT w' la (ofL c) ∧ LnR w' lb (ofL c) ∧ Below w.heap.size w w'
theorem rtx_info (k s r a c : Int) (v : Value) : (Try.prog.info? 38).map (·.size) = some (#[Value.int .i64 0, .int .u8 k, .int .i64 s, .int .i64 r, .int .i64 a, .int .i64 0, .bool false, v] : Array Value).size := by
  show _ = some 8
  kernel_rfl
theorem tx_info' (a0 a1 a2 a3 a4 a5 a6 a7 : Value) : (Try.prog.info? 35).map (·.size) = some (#[a0, a1, a2, a3, a4, a5, a6, a7] : Array Value).size := by
  show _ = some 8
  kernel_rfl
theorem rtx_info' (a0 a1 a2 a3 a4 a5 a6 a7 : Value) : (Try.prog.info? 38).map (·.size) = some (#[a0, a1, a2, a3, a4, a5, a6, a7] : Array Value).size := by
  show _ = some 8
  kernel_rfl
set_option maxRecDepth 100000 in
set_option maxHeartbeats 2000000 in
theorem of_any (k s r a c : Int) (w : World) :
    Calls Try.prog 7 #[.agg #[.int .u8 k, .int .i64 s, .int .i64 r, .int .i64 a, .int .i64 c]] w (OfIs k s r a c w) := by
  obtain ⟨q, hq⟩ : ∃ q, w.heap.size = q := ⟨_, rfl⟩
  have HQ := hide hq
  obtain ⟨o1, ho1⟩ : ∃ ob, ob = (Obj.cells #[.int .u8 k, .int .i64 s, .int .i64 r, .int .i64 a, .int .i64 c] 29) := ⟨_, rfl⟩
  obtain ⟨o2, ho2⟩ : ∃ ob, ob = (Obj.cells #[.int .i64 0, .int .u8 0, .int .i64 0, .int .i64 0, .int .i64 0, .int .i64 0, .bool false, .slice none 0 0] 35) := ⟨_, rfl⟩
  obtain ⟨o3, ho3⟩ : ∃ ob, ob = (Obj.cells #[.int .i64 0, .int .u8 0, .int .i64 0, .int .i64 0, .int .i64 0, .int .i64 0, .bool false, .slice none 0 0] 38) := ⟨_, rfl⟩
  have s1 : (w.alloc o1).heap.size = q + 1 := by simp [hq]
  have s2 : ((w.alloc o1).alloc o2).heap.size = q + 2 := by simp [hq]
  have s3 : (((w.alloc o1).alloc o2).alloc o3).heap.size = q + 3 := by simp [hq]
  have n1 := heap_new w o1
  rw [hq] at n1
  have n2 := heap_new (w.alloc o1) o2
  rw [s1] at n2
  have n3 := heap_new ((w.alloc o1).alloc o2) o3
  rw [s2] at n3
  have X1 := hide (show (((w.alloc o1).alloc o2).alloc o3).heap[q]? = some (.cells #[.int .u8 k, .int .i64 s, .int .i64 r, .int .i64 a, .int .i64 c] 29 (0, 0)) by rw [heap_old _ _ _ (by omega), heap_old _ _ _ (by omega), n1, ho1])
  have X2 := hide (show (((w.alloc o1).alloc o2).alloc o3).heap[q + 1]? = some (.cells #[.int .i64 0, .int .u8 0, .int .i64 0, .int .i64 0, .int .i64 0, .int .i64 0, .bool false, .slice none 0 0] 35 (0, 0)) by rw [heap_old _ _ _ (by omega), n2, ho2])
  have X3 := hide (show (((w.alloc o1).alloc o2).alloc o3).heap[q + 2]? = some (.cells #[.int .i64 0, .int .u8 0, .int .i64 0, .int .i64 0, .int .i64 0, .int .i64 0, .bool false, .slice none 0 0] 38 (0, 0)) by rw [n3, ho3])
  have BW := hide (show Below q w (((w.alloc o1).alloc o2).alloc o3) from (((Below.refl q w).alloc (by omega) o1).alloc (by omega) o2).alloc (by omega) o3)
  clear n1 n2 n3 s1 s2
  go_enter Try.func7, Try.ntmps7
  go_upto_region 1 with (fail)
  rw [← ho1, ← ho2, ← ho3]
  generalize ((w.alloc o1).alloc o2).alloc o3 = w3 at *
  clear ho1 ho2 ho3
  have HS3 := hide s3
  clear s3
  have t0 := cell_of_block X1.out 0
  have t1 := cell_of_block X1.out 1
  have t2 := cell_of_block X1.out 2
  have t3 := cell_of_block X1.out 3
  have t4 := cell_of_block X1.out 4
  go_upto_region 2 with (fail)
  have NA := hide (show w3.heap.size = q + 1 + 1 + 1 from HS3.out)
  obtain ⟨o4, ho4⟩ : ∃ ob, ob = (Obj.cells #[.int .i64 77, .int .u8 k, .int .i64 s, .int .i64 r, .int .i64 a, .int .i64 9, .bool true, .slice none 0 0] 35) := ⟨_, rfl⟩
  have al := (Below.refl w3.heap.size w3).alloc (Nat.le_refl _) o4
  have X4 := hide (show (w3.alloc o4).heap[w3.heap.size]? = some (.cells #[.int .i64 77, .int .u8 k, .int .i64 s, .int .i64 r, .int .i64 a, .int .i64 9, .bool true, .slice none 0 0] 35 (0, 0)) by rw [heap_new, ho4])
  rw [← ho4]
  have W2 := hide ((al.block _ (heap_lt X2.out)).trans X2.out)
  have W3 := hide ((al.block _ (heap_lt X3.out)).trans X3.out)
  have W1 := hide ((al.block _ (heap_lt X1.out)).trans X1.out)
  have BW4 := hide (BW.out.trans (al.mono (by have := heap_lt X1.out; omega)))
  have NS := hide (show (w3.alloc o4).heap.size = w3.heap.size + 1 from by simp)
  clear al X1 X2 X3 BW t0 t1 t2 t3 t4
  generalize w3.heap.size = q3 at *
  generalize w3.alloc o4 = w4 at *
  clear ho4 o4
  have t0 := cell_of_block W1.out 0
  have t1 := cell_of_block W1.out 1
  have t2 := cell_of_block W1.out 2
  have t3 := cell_of_block W1.out 3
  have t4 := cell_of_block W1.out 4
  go_upto_region 3 with (fail)
  obtain ⟨o5, ho5⟩ : ∃ ob, ob = (Obj.cells #[.int .i64 0, .int .u8 k, .int .i64 s, .int .i64 r, .int .i64 a, .int .i64 0, .bool false, .slice none 0 0] 38) := ⟨_, rfl⟩
  have al := (Below.refl w4.heap.size w4).alloc (Nat.le_refl _) o5
  have X5 := hide (show (w4.alloc o5).heap[w4.heap.size]? = some (.cells #[.int .i64 0, .int .u8 k, .int .i64 s, .int .i64 r, .int .i64 a, .int .i64 0, .bool false, .slice none 0 0] 38 (0, 0)) by rw [heap_new, ho5])
  rw [← ho5]
  have V2 := hide ((al.block _ (heap_lt W2.out)).trans W2.out)
  have V3 := hide ((al.block _ (heap_lt W3.out)).trans W3.out)
  have V1 := hide ((al.block _ (heap_lt W1.out)).trans W1.out)
  have V4 := hide ((al.block _ (heap_lt X4.out)).trans X4.out)
  have BW5 := hide (BW4.out.trans (al.mono (by have := heap_lt W1.out; omega)))
  have NS5 := hide (show (w4.alloc o5).heap.size = w4.heap.size + 1 from by simp)
  clear al W1 W2 W3 X4 BW4 t0 t1 t2 t3 t4
  generalize w4.heap.size = q4 at *
  generalize w4.alloc o5 = w5 at *
  clear ho5 o5
  have NE1 := hide (show q + 1 ≠ q3 by have := NA.out; omega)
  have NE2 := hide (show q + 1 ≠ q4 by have := NA.out; have := NS.out; omega)
  have NE3 := hide (show q + 1 + 1 ≠ q3 by have := NA.out; omega)
  have NE4 := hide (show q + 1 + 1 ≠ q4 by have := NA.out; have := NS.out; omega)
  have NE5 := hide (show q3 ≠ q4 by have := NS.out; omega)
  have NQ3 := hide (show q ≤ q3 by have := NA.out; omega)
  have NQ4 := hide (show q ≤ q4 by have := NA.out; have := NS.out; omega)
  have t4 := cell_of_block V1.out 4
  by_cases hc0 : c = 0
  · have HL0 := hide (show ofL c = [] by unfold ofL; rw [if_pos hc0])
    have X2 := V2
    have X3 := V3
    have X4 := V4
    have BW := BW5
    have LT := hide (LnT.nil w5 none)
    have LB := hide (LnR.nil w5 none)
    have HEN := hide (fun (w' : World) (h1 : LnT w' none []) (h2 : LnR w' none []) (h3 : Below q w w') => (show OfIs k s r a c w (.returned (.tuple #[.agg #[.int .i64 77, .int .u8 k, .int .i64 s, .int .i64 r, .int .i64 a, .int .i64 9, .bool true, .slice none 0 0], .agg #[.int .i64 0, .int .u8 k, .int .i64 s, .int .i64 r, .int .i64 a, .int .i64 0, .bool false, .slice none 0 0]])) w' from ⟨none, 0, none, 0, by unfold ofTx txV txC; dsimp only; rw [HL0.out]; rfl, by rw [HL0.out]; exact h1, by rw [HL0.out]; exact h2, by rw [HQ.out]; exact h3⟩))
    clear V1 V2 V3 V4 BW5 HL0
    go_upto_region 6 with (fail)
    clear t4 hc0
    generalize w5 = wf at *
    refine wp_region_held_drew (S := (fun W => W.heap[q3]? = some (.cells #[.int .i64 77, .int .u8 k, .int .i64 s, .int .i64 r, .int .i64 a, .int .i64 9, .bool true, .slice none 0 0] 35 (0, 0)) ∧ W.heap[q4]? = some (.cells #[.int .i64 0, .int .u8 k, .int .i64 s, .int .i64 r, .int .i64 a, .int .i64 0, .bool false, .slice none 0 0] 38 (0, 0)))) (by kernel_rfl) (⟨X4.out, X5.out⟩) (fun hHeld => ?_)
    have Y2 := hide (show wf.drew.heap[q + 1]? = _ from X2.out)
    have Y3 := hide (show wf.drew.heap[q + 1 + 1]? = _ from X3.out)
    have Y4 := hide (show wf.drew.heap[q3]? = some (.cells #[.int .i64 77, .int .u8 k, .int .i64 s, .int .i64 r, .int .i64 a, .int .i64 9, .bool true, .slice none 0 0] 35 (0, 0)) from X4.out)
    have Y5 := hide (show wf.drew.heap[q4]? = some (.cells #[.int .i64 0, .int .u8 k, .int .i64 s, .int .i64 r, .int .i64 a, .int .i64 0, .bool false, .slice none 0 0] 38 (0, 0)) from X5.out)
    have MT := hide (show LnT wf.drew _ _ from LT.out)
    have MB := hide (show LnR wf.drew _ _ from LB.out)
    have MW := hide BW.out.drew
    generalize wf.drew = v0 at *
    clear X2 X3 X4 X5 LT LB BW
    have Y3' := hide ((setRow_diff (w := v0) (cs := #[.int .i64 77, .int .u8 k, .int .i64 s, .int .i64 r, .int .i64 a, .int .i64 9, .bool true, .slice none 0 0]) (show q + 1 ≠ q + 1 + 1 by omega)).trans Y3.out)
    have Y4' := hide ((setRow_diff (w := v0) (cs := #[.int .i64 77, .int .u8 k, .int .i64 s, .int .i64 r, .int .i64 a, .int .i64 9, .bool true, .slice none 0 0]) (show q + 1 ≠ q3 from NE1.out)).trans Y4.out)
    have Y5' := hide ((setRow_diff (w := v0) (cs := #[.int .i64 77, .int .u8 k, .int .i64 s, .int .i64 r, .int .i64 a, .int .i64 9, .bool true, .slice none 0 0]) (show q + 1 ≠ q4 from NE2.out)).trans Y5.out)
    have Y2' := hide (setRow_same (cs := #[.int .i64 77, .int .u8 k, .int .i64 s, .int .i64 r, .int .i64 a, .int .i64 9, .bool true, .slice none 0 0]) Y2.out)
    have MT' := hide (MT.out.keepsT (setRow_keeps (Ts := [35]) Y2.out (by decide) #[.int .i64 77, .int .u8 k, .int .i64 s, .int .i64 r, .int .i64 a, .int .i64 9, .bool true, .slice none 0 0]) (by decide))
    have MB' := hide (MB.out.keepsT (setRow_keeps (Ts := [35]) Y2.out (by decide) #[.int .i64 77, .int .u8 k, .int .i64 s, .int .i64 r, .int .i64 a, .int .i64 9, .bool true, .slice none 0 0]) (by decide))
    have MW' := hide (setRow_below MW.out (Nat.le_succ q) (by have := heap_lt Y2.out; omega) #[.int .i64 77, .int .u8 k, .int .i64 s, .int .i64 r, .int .i64 a, .int .i64 9, .bool true, .slice none 0 0])
    have XIA := hide (tx_info' (.int .i64 77) (.int .u8 k) (.int .i64 s) (.int .i64 r) (.int .i64 a) (.int .i64 9) (.bool true) (.slice none 0 0))
    have XIB := hide (rtx_info' (.int .i64 0) (.int .u8 k) (.int .i64 s) (.int .i64 r) (.int .i64 a) (.int .i64 0) (.bool false) (.slice none 0 0))
    have HCA := hide (show (#[.int .i64 77, .int .u8 k, .int .i64 s, .int .i64 r, .int .i64 a, .int .i64 9, .bool true, .slice none 0 0] : Array Value).all (·.oneCell') = true from by simp [Value.oneCell'])
    have HCB := hide (show (#[.int .i64 0, .int .u8 k, .int .i64 s, .int .i64 r, .int .i64 a, .int .i64 0, .bool false, .slice none 0 0] : Array Value).all (·.oneCell') = true from by simp [Value.oneCell'])
    refine wpAnyH_take (i := 0) (oi := { dst := some 37, op := Op.load 35 (Operand.tmp 4), type := 35, pos := "law.go:31", after := #[], guard := none }) (v := ?_) rfl (by kernel_rfl) (by kernel_rfl) (by kernel_rfl) (fun _ _ _ h => h) (Or.inl ⟨by kernel_rfl, ?_⟩) hHeld ?_
    rotate_left
    · (intro w hSw; (try dsimp only at hSw); obtain ⟨hp, hx2⟩ := hSw; have e0 := cell_of_block hp 0; have e1 := cell_of_block hp 1; have e2 := cell_of_block hp 2; have e3 := cell_of_block hp 3; have e4 := cell_of_block hp 4; have e5 := cell_of_block hp 5; have e6 := cell_of_block hp 6; have e7 := cell_of_block hp 7; have g0 := cell_of_block hx2 0; have g1 := cell_of_block hx2 1; have g2 := cell_of_block hx2 2; have g3 := cell_of_block hx2 3; have g4 := cell_of_block hx2 4; have g5 := cell_of_block hx2 5; have g6 := cell_of_block hx2 6; have g7 := cell_of_block hx2 7; go_simp); try with_reducible rfl
    try simp only [Act.put, List.setIfInBounds_toArray, List.set_cons_zero, List.set_cons_succ]
    refine wpAnyH_take (i := 1) (oi := { dst := some 38, op := Op.load 38 (Operand.tmp 5), type := 38, pos := "law.go:31", after := #[{ on := 2, ground := Ground.gcOnly Departure.lateStores }], guard := none }) (v := ?_) rfl (by kernel_rfl) (by kernel_rfl) (by kernel_rfl) (fun _ _ _ h => h) (Or.inl ⟨by kernel_rfl, ?_⟩) hHeld ?_
    rotate_left
    · (intro w hSw; (try dsimp only at hSw); obtain ⟨hp, hx2⟩ := hSw; have e0 := cell_of_block hp 0; have e1 := cell_of_block hp 1; have e2 := cell_of_block hp 2; have e3 := cell_of_block hp 3; have e4 := cell_of_block hp 4; have e5 := cell_of_block hp 5; have e6 := cell_of_block hp 6; have e7 := cell_of_block hp 7; have g0 := cell_of_block hx2 0; have g1 := cell_of_block hx2 1; have g2 := cell_of_block hx2 2; have g3 := cell_of_block hx2 3; have g4 := cell_of_block hx2 4; have g5 := cell_of_block hx2 5; have g6 := cell_of_block hx2 6; have g7 := cell_of_block hx2 7; go_simp); try with_reducible rfl
    try simp only [Act.put, List.setIfInBounds_toArray, List.set_cons_zero, List.set_cons_succ]
    refine wpAnyH_ready (rs := [2]) (by kernel_rfl) (by simp) (AllReadyH.cons (o := { dst := none, op := Op.store 35 (Operand.tmp 2) (Operand.tmp 37), type := 0, pos := "law.go:31", after := #[{ on := 0, ground := Ground.data }, { on := 0, ground := Ground.phase }, { on := 1, ground := Ground.textOnly Departure.lateStores }], guard := none }) rfl (fun K hK => ?_) AllReadyH.nil)
    have hOld := hide hHeld
    clear hHeld
    refine rw_storeO 35 (.tmp 2) (.tmp 37) rfl (q + 1) rfl #[.int .i64 77, .int .u8 k, .int .i64 s, .int .i64 r, .int .i64 a, .int .i64 9, .bool true, .slice none 0 0] rfl _ Y2.out XIA.out rfl HCA.out ?_
    refine hK.out _ _ (⟨Y4'.out, Y5'.out⟩) (fun hHeld => ?_)
    clear hK K hOld
    try simp only [Act.put, List.setIfInBounds_toArray, List.set_cons_zero, List.set_cons_succ]
    refine wpAnyH_ready (rs := [3]) (by kernel_rfl) (by simp) (AllReadyH.cons (o := { dst := none, op := Op.store 38 (Operand.tmp 3) (Operand.tmp 38), type := 0, pos := "law.go:31", after := #[{ on := 1, ground := Ground.data }, { on := 2, ground := Ground.chain }, { on := 0, ground := Ground.phase }, { on := 1, ground := Ground.phase }, { on := 2, ground := Ground.phase }], guard := none }) rfl (fun K hK => ?_) AllReadyH.nil)
    have hOld := hide hHeld
    clear hHeld
    generalize v0.setRow (q + 1) #[.int .i64 77, .int .u8 k, .int .i64 s, .int .i64 r, .int .i64 a, .int .i64 9, .bool true, .slice none 0 0] = v1 at *
    refine rw_storeO 38 (.tmp 3) (.tmp 38) rfl (q + 1 + 1) rfl #[.int .i64 0, .int .u8 k, .int .i64 s, .int .i64 r, .int .i64 a, .int .i64 0, .bool false, .slice none 0 0] rfl _ Y3'.out XIB.out rfl HCB.out ?_
    refine hK.out _ _ (⟨(setRow_diff (show q + 1 + 1 ≠ q3 from NE3.out)).trans Y4'.out, (setRow_diff (show q + 1 + 1 ≠ q4 from NE4.out)).trans Y5'.out⟩) (fun hHeld => ?_)
    clear hK K hOld
    try simp only [Act.put, List.setIfInBounds_toArray, List.set_cons_zero, List.set_cons_succ]
    refine wpAnyH_done (by kernel_rfl) ?_ _
    clear hHeld
    have Z2 := hide ((setRow_diff (cs := #[.int .i64 0, .int .u8 k, .int .i64 s, .int .i64 r, .int .i64 a, .int .i64 0, .bool false, .slice none 0 0]) (show q + 1 + 1 ≠ q + 1 by omega)).trans Y2'.out)
    have Z3 := hide (setRow_same (cs := #[.int .i64 0, .int .u8 k, .int .i64 s, .int .i64 r, .int .i64 a, .int .i64 0, .bool false, .slice none 0 0]) Y3'.out)
    have NT := hide (MT'.out.keepsT (setRow_keeps (Ts := [38]) Y3'.out (by decide) #[.int .i64 0, .int .u8 k, .int .i64 s, .int .i64 r, .int .i64 a, .int .i64 0, .bool false, .slice none 0 0]) (by decide))
    have NB := hide (MB'.out.keepsT (setRow_keeps (Ts := [38]) Y3'.out (by decide) #[.int .i64 0, .int .u8 k, .int .i64 s, .int .i64 r, .int .i64 a, .int .i64 0, .bool false, .slice none 0 0]) (by decide))
    have NW := hide (setRow_below MW'.out (show q ≤ q + 1 + 1 by omega) (by have := heap_lt Y3'.out; omega) #[.int .i64 0, .int .u8 k, .int .i64 s, .int .i64 r, .int .i64 a, .int .i64 0, .bool false, .slice none 0 0])
    generalize v1.setRow (q + 1 + 1) #[.int .i64 0, .int .u8 k, .int .i64 s, .int .i64 r, .int .i64 a, .int .i64 0, .bool false, .slice none 0 0] = v2 at *
    have c0 := cell_of_block Z2.out 0
    have c1 := cell_of_block Z2.out 1
    have c2 := cell_of_block Z2.out 2
    have c3 := cell_of_block Z2.out 3
    have c4 := cell_of_block Z2.out 4
    have c5 := cell_of_block Z2.out 5
    have c6 := cell_of_block Z2.out 6
    have c7 := cell_of_block Z2.out 7
    have d0 := cell_of_block Z3.out 0
    have d1 := cell_of_block Z3.out 1
    have d2 := cell_of_block Z3.out 2
    have d3 := cell_of_block Z3.out 3
    have d4 := cell_of_block Z3.out 4
    have d5 := cell_of_block Z3.out 5
    have d6 := cell_of_block Z3.out 6
    have d7 := cell_of_block Z3.out 7
    go_wp2_with fail
    refine bodyPost_ret (v := .tuple #[.agg #[.int .i64 77, .int .u8 k, .int .i64 s, .int .i64 r, .int .i64 a, .int .i64 9, .bool true, .slice none 0 0], .agg #[.int .i64 0, .int .u8 k, .int .i64 s, .int .i64 r, .int .i64 a, .int .i64 0, .bool false, .slice none 0 0]]) ?_ rfl (HEN.out _ NT.out NB.out NW.out)
    simp [results, Try.results7, go_sem, c0, c1, c2, c3, c4, c5, c6, c7, d0, d1, d2, d3, d4, d5, d6, d7]

  · have HL0 := hide (show ofL c = [⟨c, 3⟩] by unfold ofL; rw [if_neg hc0])
    have al := (Below.refl w5.heap.size w5).alloc (Nat.le_refl _) (.cells #[.int .i64 c, .int .i64 3] 80)
    have XL := hide (heap_new w5 (.cells #[.int .i64 c, .int .i64 3] 80))
    have W1 := hide ((al.block _ (heap_lt V1.out)).trans V1.out)
    have W2 := hide ((al.block _ (heap_lt V2.out)).trans V2.out)
    have W3 := hide ((al.block _ (heap_lt V3.out)).trans V3.out)
    have W4 := hide ((al.block _ (heap_lt V4.out)).trans V4.out)
    have W5 := hide ((al.block _ (heap_lt X5.out)).trans X5.out)
    have BW6 := hide (BW5.out.trans (al.mono (by have := heap_lt V1.out; omega)))
    have t7 := cell_of_block W4.out 7
    have z7 := frozen_of_block W4.out 7
    clear al V1 V2 V3 V4 X5 BW5
    go_upto_region 5 with (fail)
    generalize hq5 : w5.heap.size = q5 at *
    clear hq5
    have K6 := hide (KeepsT.setCell (Ts := [35]) W4.out (by decide) 7 (.slice (some ⟨q5, 0, none⟩) 1 1))
    have X4 := hide (show ((w5.alloc (.cells #[.int .i64 c, .int .i64 3] 80)).setCell ⟨q3, 7, none⟩ (.slice (some ⟨q5, 0, none⟩) 1 1)).heap[q3]? = some (.cells #[.int .i64 77, .int .u8 k, .int .i64 s, .int .i64 r, .int .i64 a, .int .i64 9, .bool true, .slice (some ⟨q5, 0, none⟩) 1 1] 35 (0, 0)) from block_setCell W4.out 7 (.slice (some ⟨q5, 0, none⟩) 1 1))
    have V1 := hide ((block_setCell_other (v := .slice (some ⟨q5, 0, none⟩) 1 1) (show q3 ≠ q by have := NA.out; omega) 7).trans W1.out)
    have V2 := hide ((block_setCell_other (v := .slice (some ⟨q5, 0, none⟩) 1 1) NE1.out.symm 7).trans W2.out)
    have V3 := hide ((block_setCell_other (v := .slice (some ⟨q5, 0, none⟩) 1 1) NE3.out.symm 7).trans W3.out)
    have V5 := hide ((block_setCell_other (v := .slice (some ⟨q5, 0, none⟩) 1 1) NE5.out 7).trans W5.out)
    have VL := hide (K6.out.cells XL.out (by decide))
    have BW7 := hide (BW6.out.setCell (p := ⟨q3, 7, none⟩) NQ3.out (.slice (some ⟨q5, 0, none⟩) 1 1))
    generalize (w5.alloc (.cells #[.int .i64 c, .int .i64 3] 80)).setCell ⟨q3, 7, none⟩ (.slice (some ⟨q5, 0, none⟩) 1 1) = w6 at *
    clear K6 W1 W2 W3 W4 W5 XL BW6 t4 t7 z7
    have al := (Below.refl w6.heap.size w6).alloc (Nat.le_refl _) (.cells #[.int .i64 c, .int .i64 3] 87)
    have XB := hide (heap_new w6 (.cells #[.int .i64 c, .int .i64 3] 87))
    have W1 := hide ((al.block _ (heap_lt V1.out)).trans V1.out)
    have W2 := hide ((al.block _ (heap_lt V2.out)).trans V2.out)
    have W3 := hide ((al.block _ (heap_lt V3.out)).trans V3.out)
    have W4 := hide ((al.block _ (heap_lt X4.out)).trans X4.out)
    have W5 := hide ((al.block _ (heap_lt V5.out)).trans V5.out)
    have WL := hide ((al.block _ (heap_lt VL.out)).trans VL.out)
    have BW8 := hide (BW7.out.trans (al.mono (by have := heap_lt V1.out; omega)))
    have t4 := cell_of_block V1.out 4
    have t7 := cell_of_block W5.out 7
    have z7 := frozen_of_block W5.out 7
    clear al V1 V2 V3 X4 V5 VL BW7 W1
    go_upto_region 6 with (fail)
    generalize hq6 : w6.heap.size = q6 at *
    clear hq6
    have K6 := hide (KeepsT.setCell (Ts := [38]) W5.out (by decide) 7 (.slice (some ⟨q6, 0, none⟩) 1 1))
    have X5 := hide (show ((w6.alloc (.cells #[.int .i64 c, .int .i64 3] 87)).setCell ⟨q4, 7, none⟩ (.slice (some ⟨q6, 0, none⟩) 1 1)).heap[q4]? = some (.cells #[.int .i64 0, .int .u8 k, .int .i64 s, .int .i64 r, .int .i64 a, .int .i64 0, .bool false, .slice (some ⟨q6, 0, none⟩) 1 1] 38 (0, 0)) from block_setCell W5.out 7 (.slice (some ⟨q6, 0, none⟩) 1 1))
    have X2 := hide ((block_setCell_other (v := .slice (some ⟨q6, 0, none⟩) 1 1) NE2.out.symm 7).trans W2.out)
    have X3 := hide ((block_setCell_other (v := .slice (some ⟨q6, 0, none⟩) 1 1) NE4.out.symm 7).trans W3.out)
    have X4 := hide ((block_setCell_other (v := .slice (some ⟨q6, 0, none⟩) 1 1) NE5.out.symm 7).trans W4.out)
    have LT := hide (LnT.one1 (K6.out.cells WL.out (by decide)))
    have LB := hide (LnR.one1 (K6.out.cells XB.out (by decide)))
    have BW := hide (BW8.out.setCell (p := ⟨q4, 7, none⟩) NQ4.out (.slice (some ⟨q6, 0, none⟩) 1 1))
    generalize (w6.alloc (.cells #[.int .i64 c, .int .i64 3] 87)).setCell ⟨q4, 7, none⟩ (.slice (some ⟨q6, 0, none⟩) 1 1) = wf at *
    clear K6 W2 W3 W4 W5 XB WL BW8 t4 t7 z7 hc0
    have HEN := hide (fun (w' : World) (h1 : LnT w' (some ⟨q5, 0, none⟩) [⟨c, 3⟩]) (h2 : LnR w' (some ⟨q6, 0, none⟩) [⟨c, 3⟩]) (h3 : Below q w w') => (show OfIs k s r a c w (.returned (.tuple #[.agg #[.int .i64 77, .int .u8 k, .int .i64 s, .int .i64 r, .int .i64 a, .int .i64 9, .bool true, .slice (some ⟨q5, 0, none⟩) 1 1], .agg #[.int .i64 0, .int .u8 k, .int .i64 s, .int .i64 r, .int .i64 a, .int .i64 0, .bool false, .slice (some ⟨q6, 0, none⟩) 1 1]])) w' from ⟨some ⟨q5, 0, none⟩, 1, some ⟨q6, 0, none⟩, 1, by unfold ofTx txV txC; dsimp only; rw [HL0.out]; rfl, by rw [HL0.out]; exact h1, by rw [HL0.out]; exact h2, by rw [HQ.out]; exact h3⟩))
    clear HL0
    refine wp_region_held_drew (S := (fun W => W.heap[q3]? = some (.cells #[.int .i64 77, .int .u8 k, .int .i64 s, .int .i64 r, .int .i64 a, .int .i64 9, .bool true, .slice (some ⟨q5, 0, none⟩) 1 1] 35 (0, 0)) ∧ W.heap[q4]? = some (.cells #[.int .i64 0, .int .u8 k, .int .i64 s, .int .i64 r, .int .i64 a, .int .i64 0, .bool false, .slice (some ⟨q6, 0, none⟩) 1 1] 38 (0, 0)))) (by kernel_rfl) (⟨X4.out, X5.out⟩) (fun hHeld => ?_)
    have Y2 := hide (show wf.drew.heap[q + 1]? = _ from X2.out)
    have Y3 := hide (show wf.drew.heap[q + 1 + 1]? = _ from X3.out)
    have Y4 := hide (show wf.drew.heap[q3]? = some (.cells #[.int .i64 77, .int .u8 k, .int .i64 s, .int .i64 r, .int .i64 a, .int .i64 9, .bool true, .slice (some ⟨q5, 0, none⟩) 1 1] 35 (0, 0)) from X4.out)
    have Y5 := hide (show wf.drew.heap[q4]? = some (.cells #[.int .i64 0, .int .u8 k, .int .i64 s, .int .i64 r, .int .i64 a, .int .i64 0, .bool false, .slice (some ⟨q6, 0, none⟩) 1 1] 38 (0, 0)) from X5.out)
    have MT := hide (show LnT wf.drew _ _ from LT.out)
    have MB := hide (show LnR wf.drew _ _ from LB.out)
    have MW := hide BW.out.drew
    generalize wf.drew = v0 at *
    clear X2 X3 X4 X5 LT LB BW
    have Y3' := hide ((setRow_diff (w := v0) (cs := #[.int .i64 77, .int .u8 k, .int .i64 s, .int .i64 r, .int .i64 a, .int .i64 9, .bool true, .slice (some ⟨q5, 0, none⟩) 1 1]) (show q + 1 ≠ q + 1 + 1 by omega)).trans Y3.out)
    have Y4' := hide ((setRow_diff (w := v0) (cs := #[.int .i64 77, .int .u8 k, .int .i64 s, .int .i64 r, .int .i64 a, .int .i64 9, .bool true, .slice (some ⟨q5, 0, none⟩) 1 1]) (show q + 1 ≠ q3 from NE1.out)).trans Y4.out)
    have Y5' := hide ((setRow_diff (w := v0) (cs := #[.int .i64 77, .int .u8 k, .int .i64 s, .int .i64 r, .int .i64 a, .int .i64 9, .bool true, .slice (some ⟨q5, 0, none⟩) 1 1]) (show q + 1 ≠ q4 from NE2.out)).trans Y5.out)
    have Y2' := hide (setRow_same (cs := #[.int .i64 77, .int .u8 k, .int .i64 s, .int .i64 r, .int .i64 a, .int .i64 9, .bool true, .slice (some ⟨q5, 0, none⟩) 1 1]) Y2.out)
    have MT' := hide (MT.out.keepsT (setRow_keeps (Ts := [35]) Y2.out (by decide) #[.int .i64 77, .int .u8 k, .int .i64 s, .int .i64 r, .int .i64 a, .int .i64 9, .bool true, .slice (some ⟨q5, 0, none⟩) 1 1]) (by decide))
    have MB' := hide (MB.out.keepsT (setRow_keeps (Ts := [35]) Y2.out (by decide) #[.int .i64 77, .int .u8 k, .int .i64 s, .int .i64 r, .int .i64 a, .int .i64 9, .bool true, .slice (some ⟨q5, 0, none⟩) 1 1]) (by decide))
    have MW' := hide (setRow_below MW.out (Nat.le_succ q) (by have := heap_lt Y2.out; omega) #[.int .i64 77, .int .u8 k, .int .i64 s, .int .i64 r, .int .i64 a, .int .i64 9, .bool true, .slice (some ⟨q5, 0, none⟩) 1 1])
    have XIA := hide (tx_info' (.int .i64 77) (.int .u8 k) (.int .i64 s) (.int .i64 r) (.int .i64 a) (.int .i64 9) (.bool true) (.slice (some ⟨q5, 0, none⟩) 1 1))
    have XIB := hide (rtx_info' (.int .i64 0) (.int .u8 k) (.int .i64 s) (.int .i64 r) (.int .i64 a) (.int .i64 0) (.bool false) (.slice (some ⟨q6, 0, none⟩) 1 1))
    have HCA := hide (show (#[.int .i64 77, .int .u8 k, .int .i64 s, .int .i64 r, .int .i64 a, .int .i64 9, .bool true, .slice (some ⟨q5, 0, none⟩) 1 1] : Array Value).all (·.oneCell') = true from by simp [Value.oneCell'])
    have HCB := hide (show (#[.int .i64 0, .int .u8 k, .int .i64 s, .int .i64 r, .int .i64 a, .int .i64 0, .bool false, .slice (some ⟨q6, 0, none⟩) 1 1] : Array Value).all (·.oneCell') = true from by simp [Value.oneCell'])
    refine wpAnyH_take (i := 0) (oi := { dst := some 37, op := Op.load 35 (Operand.tmp 4), type := 35, pos := "law.go:31", after := #[], guard := none }) (v := ?_) rfl (by kernel_rfl) (by kernel_rfl) (by kernel_rfl) (fun _ _ _ h => h) (Or.inl ⟨by kernel_rfl, ?_⟩) hHeld ?_
    rotate_left
    · (intro w hSw; (try dsimp only at hSw); obtain ⟨hp, hx2⟩ := hSw; have e0 := cell_of_block hp 0; have e1 := cell_of_block hp 1; have e2 := cell_of_block hp 2; have e3 := cell_of_block hp 3; have e4 := cell_of_block hp 4; have e5 := cell_of_block hp 5; have e6 := cell_of_block hp 6; have e7 := cell_of_block hp 7; have g0 := cell_of_block hx2 0; have g1 := cell_of_block hx2 1; have g2 := cell_of_block hx2 2; have g3 := cell_of_block hx2 3; have g4 := cell_of_block hx2 4; have g5 := cell_of_block hx2 5; have g6 := cell_of_block hx2 6; have g7 := cell_of_block hx2 7; go_simp); try with_reducible rfl
    try simp only [Act.put, List.setIfInBounds_toArray, List.set_cons_zero, List.set_cons_succ]
    refine wpAnyH_take (i := 1) (oi := { dst := some 38, op := Op.load 38 (Operand.tmp 5), type := 38, pos := "law.go:31", after := #[{ on := 2, ground := Ground.gcOnly Departure.lateStores }], guard := none }) (v := ?_) rfl (by kernel_rfl) (by kernel_rfl) (by kernel_rfl) (fun _ _ _ h => h) (Or.inl ⟨by kernel_rfl, ?_⟩) hHeld ?_
    rotate_left
    · (intro w hSw; (try dsimp only at hSw); obtain ⟨hp, hx2⟩ := hSw; have e0 := cell_of_block hp 0; have e1 := cell_of_block hp 1; have e2 := cell_of_block hp 2; have e3 := cell_of_block hp 3; have e4 := cell_of_block hp 4; have e5 := cell_of_block hp 5; have e6 := cell_of_block hp 6; have e7 := cell_of_block hp 7; have g0 := cell_of_block hx2 0; have g1 := cell_of_block hx2 1; have g2 := cell_of_block hx2 2; have g3 := cell_of_block hx2 3; have g4 := cell_of_block hx2 4; have g5 := cell_of_block hx2 5; have g6 := cell_of_block hx2 6; have g7 := cell_of_block hx2 7; go_simp); try with_reducible rfl
    try simp only [Act.put, List.setIfInBounds_toArray, List.set_cons_zero, List.set_cons_succ]
    refine wpAnyH_ready (rs := [2]) (by kernel_rfl) (by simp) (AllReadyH.cons (o := { dst := none, op := Op.store 35 (Operand.tmp 2) (Operand.tmp 37), type := 0, pos := "law.go:31", after := #[{ on := 0, ground := Ground.data }, { on := 0, ground := Ground.phase }, { on := 1, ground := Ground.textOnly Departure.lateStores }], guard := none }) rfl (fun K hK => ?_) AllReadyH.nil)
    have hOld := hide hHeld
    clear hHeld
    refine rw_storeO 35 (.tmp 2) (.tmp 37) rfl (q + 1) rfl #[.int .i64 77, .int .u8 k, .int .i64 s, .int .i64 r, .int .i64 a, .int .i64 9, .bool true, .slice (some ⟨q5, 0, none⟩) 1 1] rfl _ Y2.out XIA.out rfl HCA.out ?_
    refine hK.out _ _ (⟨Y4'.out, Y5'.out⟩) (fun hHeld => ?_)
    clear hK K hOld
    try simp only [Act.put, List.setIfInBounds_toArray, List.set_cons_zero, List.set_cons_succ]
    refine wpAnyH_ready (rs := [3]) (by kernel_rfl) (by simp) (AllReadyH.cons (o := { dst := none, op := Op.store 38 (Operand.tmp 3) (Operand.tmp 38), type := 0, pos := "law.go:31", after := #[{ on := 1, ground := Ground.data }, { on := 2, ground := Ground.chain }, { on := 0, ground := Ground.phase }, { on := 1, ground := Ground.phase }, { on := 2, ground := Ground.phase }], guard := none }) rfl (fun K hK => ?_) AllReadyH.nil)
    have hOld := hide hHeld
    clear hHeld
    generalize v0.setRow (q + 1) #[.int .i64 77, .int .u8 k, .int .i64 s, .int .i64 r, .int .i64 a, .int .i64 9, .bool true, .slice (some ⟨q5, 0, none⟩) 1 1] = v1 at *
    refine rw_storeO 38 (.tmp 3) (.tmp 38) rfl (q + 1 + 1) rfl #[.int .i64 0, .int .u8 k, .int .i64 s, .int .i64 r, .int .i64 a, .int .i64 0, .bool false, .slice (some ⟨q6, 0, none⟩) 1 1] rfl _ Y3'.out XIB.out rfl HCB.out ?_
    refine hK.out _ _ (⟨(setRow_diff (show q + 1 + 1 ≠ q3 from NE3.out)).trans Y4'.out, (setRow_diff (show q + 1 + 1 ≠ q4 from NE4.out)).trans Y5'.out⟩) (fun hHeld => ?_)
    clear hK K hOld
    try simp only [Act.put, List.setIfInBounds_toArray, List.set_cons_zero, List.set_cons_succ]
    refine wpAnyH_done (by kernel_rfl) ?_ _
    clear hHeld
    have Z2 := hide ((setRow_diff (cs := #[.int .i64 0, .int .u8 k, .int .i64 s, .int .i64 r, .int .i64 a, .int .i64 0, .bool false, .slice (some ⟨q6, 0, none⟩) 1 1]) (show q + 1 + 1 ≠ q + 1 by omega)).trans Y2'.out)
    have Z3 := hide (setRow_same (cs := #[.int .i64 0, .int .u8 k, .int .i64 s, .int .i64 r, .int .i64 a, .int .i64 0, .bool false, .slice (some ⟨q6, 0, none⟩) 1 1]) Y3'.out)
    have NT := hide (MT'.out.keepsT (setRow_keeps (Ts := [38]) Y3'.out (by decide) #[.int .i64 0, .int .u8 k, .int .i64 s, .int .i64 r, .int .i64 a, .int .i64 0, .bool false, .slice (some ⟨q6, 0, none⟩) 1 1]) (by decide))
    have NB := hide (MB'.out.keepsT (setRow_keeps (Ts := [38]) Y3'.out (by decide) #[.int .i64 0, .int .u8 k, .int .i64 s, .int .i64 r, .int .i64 a, .int .i64 0, .bool false, .slice (some ⟨q6, 0, none⟩) 1 1]) (by decide))
    have NW := hide (setRow_below MW'.out (show q ≤ q + 1 + 1 by omega) (by have := heap_lt Y3'.out; omega) #[.int .i64 0, .int .u8 k, .int .i64 s, .int .i64 r, .int .i64 a, .int .i64 0, .bool false, .slice (some ⟨q6, 0, none⟩) 1 1])
    generalize v1.setRow (q + 1 + 1) #[.int .i64 0, .int .u8 k, .int .i64 s, .int .i64 r, .int .i64 a, .int .i64 0, .bool false, .slice (some ⟨q6, 0, none⟩) 1 1] = v2 at *
    have c0 := cell_of_block Z2.out 0
    have c1 := cell_of_block Z2.out 1
    have c2 := cell_of_block Z2.out 2
    have c3 := cell_of_block Z2.out 3
    have c4 := cell_of_block Z2.out 4
    have c5 := cell_of_block Z2.out 5
    have c6 := cell_of_block Z2.out 6
    have c7 := cell_of_block Z2.out 7
    have d0 := cell_of_block Z3.out 0
    have d1 := cell_of_block Z3.out 1
    have d2 := cell_of_block Z3.out 2
    have d3 := cell_of_block Z3.out 3
    have d4 := cell_of_block Z3.out 4
    have d5 := cell_of_block Z3.out 5
    have d6 := cell_of_block Z3.out 6
    have d7 := cell_of_block Z3.out 7
    go_wp2_with fail
    refine bodyPost_ret (v := .tuple #[.agg #[.int .i64 77, .int .u8 k, .int .i64 s, .int .i64 r, .int .i64 a, .int .i64 9, .bool true, .slice (some ⟨q5, 0, none⟩) 1 1], .agg #[.int .i64 0, .int .u8 k, .int .i64 s, .int .i64 r, .int .i64 a, .int .i64 0, .bool false, .slice (some ⟨q6, 0, none⟩) 1 1]]) ?_ rfl (HEN.out _ NT.out NB.out NW.out)
    simp [results, Try.results7, go_sem, c0, c1, c2, c3, c4, c5, c6, c7, d0, d1, d2, d3, d4, d5, d6, d7]


end Go.Proofs.Ytbnbfnlfgmlcgaa
