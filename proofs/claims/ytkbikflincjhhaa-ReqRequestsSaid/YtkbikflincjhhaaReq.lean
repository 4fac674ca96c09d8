/-
  Layer 28: the program's calls: event, right, writeEvent, Encode.
-/
import Derived.Test.YtkbikflincjhhaaReqW
import Derived.Test.YtkbikflincjhhaaMReq2

namespace Go.Proofs.Ytkbikflincjhhaa
set_option linter.unusedSimpArgs false
set_option linter.unusedVariables false
open Go.RowKit Go.WideShapes Go.ChangeShapes Go.ChangeAt Go.Deep
def evB (k : Int) : Bool := decide (1 ≤ k ∧ k ≤ 9)
def rtB (k : Int) : Bool := decide (1 ≤ k ∧ k ≤ 14)
theorem event_any (k : Int) (w : World) : Calls Try.prog 19 #[.int .u8 k] w fun e w' => e = .returned (.bool (evB k)) ∧ w = w' := by
  by_cases h1 : 1 ≤ k
  · by_cases h2 : k ≤ 9
    · have HT := hide (show evB k = true from decide_eq_true ⟨h1, h2⟩)
      go_enter Try.func19, Try.ntmps19
      go_wp2
      go_ret
      exact ⟨ret_bb HT.out.symm, rfl⟩
    · have HT := hide (show evB k = false from decide_eq_false (by omega))
      have h2' : 9 < k := by omega
      go_enter Try.func19, Try.ntmps19
      go_wp2
      go_ret
      exact ⟨ret_bb HT.out.symm, rfl⟩
  · have HT := hide (show evB k = false from decide_eq_false (by omega))
    have h1' : k < 1 := by omega
    go_enter Try.func19, Try.ntmps19
    go_wp2
    go_ret
    exact ⟨ret_bb HT.out.symm, rfl⟩
theorem right_any (k : Int) (w : World) : Calls Try.prog 17 #[.int .u8 k] w fun e w' => e = .returned (.bool (rtB k)) ∧ w = w' := by
  have HE := hide (fun W => event_any k W)
  by_cases h1 : 1 ≤ k ∧ k ≤ 9
  · have HT := hide (show rtB k = true from decide_eq_true (by omega))
    rw [show evB k = true from decide_eq_true h1] at HE
    go_enter Try.func17, Try.ntmps17
    go_wp2_with fail
    refine (HE.out _).mono ?_
    rintro e w1 ⟨rfl, rfl⟩
    go_wp2_with fail
    go_ret
    exact ⟨ret_bb HT.out.symm, rfl⟩
  · rw [show evB k = false from decide_eq_false h1] at HE
    by_cases h2 : 10 ≤ k
    · by_cases h3 : k ≤ 14
      · have HT := hide (show rtB k = true from decide_eq_true (by omega))
        clear h1
        go_enter Try.func17, Try.ntmps17
        go_wp2_with fail
        refine (HE.out _).mono ?_
        rintro e w1 ⟨rfl, rfl⟩
        go_wp2_with fail
        go_ret
        exact ⟨ret_bb HT.out.symm, rfl⟩
      · have HT := hide (show rtB k = false from decide_eq_false (by omega))
        have h3' : 14 < k := by omega
        have h3'' : decide (k ≤ 14) = false := decide_eq_false (by omega)
        clear h1
        go_enter Try.func17, Try.ntmps17
        go_wp2_with fail
        refine (HE.out _).mono ?_
        rintro e w1 ⟨rfl, rfl⟩
        go_wp2_with fail
        go_ret
        exact ⟨ret_bb HT.out.symm, rfl⟩
    · have HT := hide (show rtB k = false from decide_eq_false (by omega))
      have h2' : k < 10 := by omega
      clear h1
      go_enter Try.func17, Try.ntmps17
      go_wp2_with fail
      refine (HE.out _).mono ?_
      rintro e w1 ⟨rfl, rfl⟩
      go_wp2_with fail
      go_ret
      exact ⟨ret_bb HT.out.symm, rfl⟩
theorem fit2_is (c : Int) (h : inR c) : fitsB (IntKind.u64.wrap c).toNat 2 = fit2 c := fits2 c h
theorem fit4_is (c : Int) (h : inR c) : fitsB (IntKind.u64.wrap c).toNat 4 = fit4 c := by
  unfold fitsB fit4
  rw [decide_eq_decide]
  show (1 ≤ (4 : Int) ∧ (4 : Int) ≤ 8 ∧ (IntKind.u64.wrap c).toNat < 256 ^ 4) ↔ _
  obtain ⟨h1, h2⟩ := h
  rw [IntKind.wrap_u64]
  constructor
  · rintro ⟨-, -, h3⟩; omega
  · intro h3; exact ⟨by decide, by decide, by omega⟩
theorem put2_is (c : Int) : putS (IntKind.u64.wrap c) 2 = putL (wu c) 2 := by unfold putS wu; rw [if_pos (by decide)]; rfl
theorem put4_is (c : Int) : putS (IntKind.u64.wrap c) 4 = putL (wu c) 4 := by unfold putS wu; rw [if_pos (by decide)]; rfl
theorem put1_is (c : Int) : putS c 1 = putL c.toNat 1 := by unfold putS; rw [if_pos (by decide)]; rfl
theorem fit1_is (c : Int) (h : 0 ≤ c ∧ c ≤ 255) : fitsB c.toNat 1 = true := by
  unfold fitsB
  exact decide_eq_true ⟨by decide, by decide, by show c.toNat < 256 ^ 1; omega⟩
/-- what writeEvent leaves -/
def WEvIs (w0 : World) (q : Nat) (r : RqM) (T : List UInt8) (e : Ending) (w' : World) : Prop := e = .returned (.tuple #[]) ∧ WQ w' w0.heap.size q (encOk r) (T ++ encB r) 1000 ∧ Below w0.heap.size w0 w'
theorem WQ.more {W : World} {B q : Nat} {ok : Bool} {T : List UInt8} {m n : Nat} (h : WQ W B q ok T m) (hm : m ≤ n) : WQ W B q ok T n := by
  obtain ⟨l, h1, h2, h3⟩ := h
  exact ⟨l, h1, h2, by omega⟩
set_option maxRecDepth 100000 in
set_option maxHeartbeats 400000 in
theorem wev_one (r : RqM) (hr : RqOk r) (a : Option Addr) (cap q : Nat) (w0 w : World) (hk : r.k = 1) (hin : LnIn w0 a r.L) (hlow : Below w0.heap.size w0 w) (T : List UInt8) (hW : WQ w w0.heap.size q true T 8) (hB : w0.heap.size ≤ q) :
    Calls Try.prog 20 #[.pointer (some ⟨q, 0, none⟩), .int .u8 r.k, .agg #[.int .u8 r.ek, .int .u64 r.key, .int .i64 r.ref, .int .i64 r.amt, .int .i64 r.code, .int .u8 r.ak, .string r.name, .slice a r.L.length cap]] w (WEvIs w0 q r T) := by
  have hsz : w0.heap.size ≤ w.heap.size := hlow.size
  have hal := (Below.refl w.heap.size w).alloc (Nat.le_refl _) (.cells #[.int .u8 r.ek, .int .u64 r.key, .int .i64 r.ref, .int .i64 r.amt, .int .i64 r.code, .int .u8 r.ak, .string r.name, .slice a r.L.length cap] 37)
  have EB := hide (heap_new w (.cells #[.int .u8 r.ek, .int .u64 r.key, .int .i64 r.ref, .int .i64 r.amt, .int .i64 r.code, .int .u8 r.ak, .string r.name, .slice a r.L.length cap] 37))
  have WR := hide (hW.below hal)
  have BL := hide (hlow.alloc hsz (.cells #[.int .u8 r.ek, .int .u64 r.key, .int .i64 r.ref, .int .i64 r.amt, .int .i64 r.code, .int .u8 r.ak, .string r.name, .slice a r.L.length cap] 37))
  have HR := hide hr
  have HIN := hide hin
  have HBQ := hide hB
  clear hal hW hlow hr hin hsz hB
  have HEQ := hide (And.intro (encOk_1 hk) (encB_1 hk))
  have HC1 := hide (fun W hw => wq_number w0.heap.size q true T 8 (by omega) (IntKind.u64.wrap r.code) (wu64 _).1 (wu64 _).2 2 W hw HBQ.out)
  rw [fit2_is _ HR.out.code, put2_is, Bool.true_and] at HC1
  have hwa : IntKind.u64.wrap r.ak = r.ak := by have := HR.out.ak; rw [IntKind.wrap_u64]; omega
  have HC2 := hide (fun W hw => wq_number w0.heap.size q (fit2 r.code) (T ++ putL (wu r.code) 2) (8 + 8) (by omega) r.ak HR.out.ak.1 (by have := HR.out.ak; omega) 1 W hw HBQ.out)
  rw [fit1_is _ HR.out.ak, put1_is, Bool.and_true] at HC2
  have HC3 := hide (fun W hw => wq_text w0.heap.size q (fit2 r.code) (T ++ putL (wu r.code) 2 ++ putL r.ak.toNat 1) (8 + 8 + 8) (by omega) r.name HR.out.name W hw HBQ.out)
  rw [hk]
  go_enter Try.func20, Try.ntmps20
  go_upto_region 3 with (fail)
  generalize w.alloc (.cells #[.int .u8 r.ek, .int .u64 r.key, .int .i64 r.ref, .int .i64 r.amt, .int .i64 r.code, .int .u8 r.ak, .string r.name, .slice a r.L.length cap] 37) = w1 at *
  generalize w.heap.size = eb at *
  have EB0 := hide (show w1.drew.heap[eb]? = _ from EB.out)
  have WR0 := hide (show WQ w1.drew w0.heap.size q true T 8 from WR.out)
  have BL0 := hide BL.out.drew
  clear EB WR BL hk
  refine wp_region_held_drew (S := (fun W => W.heap[eb]? = some (.cells #[.int .u8 r.ek, .int .u64 r.key, .int .i64 r.ref, .int .i64 r.amt, .int .i64 r.code, .int .u8 r.ak, .string r.name, .slice a r.L.length cap] 37 (0, 0)))) (by kernel_rfl) (EB0.out) (fun hHeld => ?_)
  generalize w1.drew = v0 at *
  refine wpAnyH_take (i := 0) (oi := { dst := some 9, op := Op.move (Operand.tmp 0), type := 85, pos := "req.go:61", after := #[], guard := none }) (v := ?_) rfl (by kernel_rfl) (by kernel_rfl) (by kernel_rfl) (fun _ _ _ h => h) (Or.inl ⟨by kernel_rfl, ?_⟩) hHeld ?_
  rotate_left
  · (intro w hSw; (try dsimp only at hSw); have e1 := cell_of_block hSw 1; have e2 := cell_of_block hSw 2; have e3 := cell_of_block hSw 3; have e4 := cell_of_block hSw 4; have e5 := cell_of_block hSw 5; have e6 := cell_of_block hSw 6; go_simp); try with_reducible rfl
  try simp only [Act.put, List.setIfInBounds_toArray, List.set_cons_zero, List.set_cons_succ]
  refine wpAnyH_take (i := 1) (oi := { dst := some 10, op := Op.fieldAddr 37 (Operand.tmp 5) 4, type := 0, pos := "req.go:61", after := #[], guard := none }) (v := ?_) rfl (by kernel_rfl) (by kernel_rfl) (by kernel_rfl) (fun _ _ _ h => h) (Or.inl ⟨by kernel_rfl, ?_⟩) hHeld ?_
  rotate_left
  · (intro w hSw; (try dsimp only at hSw); have e1 := cell_of_block hSw 1; have e2 := cell_of_block hSw 2; have e3 := cell_of_block hSw 3; have e4 := cell_of_block hSw 4; have e5 := cell_of_block hSw 5; have e6 := cell_of_block hSw 6; go_simp); try with_reducible rfl
  try simp only [Act.put, List.setIfInBounds_toArray, List.set_cons_zero, List.set_cons_succ]
  refine wpAnyH_take (i := 2) (oi := { dst := some 11, op := Op.fieldAddr 33 (Operand.tmp 10) 0, type := 0, pos := "req.go:61", after := #[{ on := 1, ground := Ground.data }], guard := none }) (v := ?_) rfl (by kernel_rfl) (by kernel_rfl) (by kernel_rfl) (fun _ _ _ h => h) (Or.inl ⟨by kernel_rfl, ?_⟩) hHeld ?_
  rotate_left
  · (intro w hSw; (try dsimp only at hSw); have e1 := cell_of_block hSw 1; have e2 := cell_of_block hSw 2; have e3 := cell_of_block hSw 3; have e4 := cell_of_block hSw 4; have e5 := cell_of_block hSw 5; have e6 := cell_of_block hSw 6; go_simp); try with_reducible rfl
  try simp only [Act.put, List.setIfInBounds_toArray, List.set_cons_zero, List.set_cons_succ]
  refine wpAnyH_take (i := 3) (oi := { dst := some 12, op := Op.load 3 (Operand.tmp 11), type := 3, pos := "req.go:61", after := #[{ on := 2, ground := Ground.data }], guard := none }) (v := ?_) rfl (by kernel_rfl) (by kernel_rfl) (by kernel_rfl) (fun _ _ _ h => h) (Or.inl ⟨by kernel_rfl, ?_⟩) hHeld ?_
  rotate_left
  · (intro w hSw; (try dsimp only at hSw); have e1 := cell_of_block hSw 1; have e2 := cell_of_block hSw 2; have e3 := cell_of_block hSw 3; have e4 := cell_of_block hSw 4; have e5 := cell_of_block hSw 5; have e6 := cell_of_block hSw 6; go_simp); try with_reducible rfl
  try simp only [Act.put, List.setIfInBounds_toArray, List.set_cons_zero, List.set_cons_succ]
  refine wpAnyH_take (i := 4) (oi := { dst := some 13, op := Op.convert 3 22 (Operand.tmp 12), type := 22, pos := "req.go:61", after := #[{ on := 3, ground := Ground.data }], guard := none }) (v := ?_) rfl (by kernel_rfl) (by kernel_rfl) (by kernel_rfl) (fun _ _ _ h => h) (Or.inl ⟨by kernel_rfl, ?_⟩) hHeld ?_
  rotate_left
  · (intro w hSw; (try dsimp only at hSw); have e1 := cell_of_block hSw 1; have e2 := cell_of_block hSw 2; have e3 := cell_of_block hSw 3; have e4 := cell_of_block hSw 4; have e5 := cell_of_block hSw 5; have e6 := cell_of_block hSw 6; go_simp); try with_reducible rfl
  try simp only [Act.put, List.setIfInBounds_toArray, List.set_cons_zero, List.set_cons_succ]
  refine wpAnyH_take (i := 6) (oi := { dst := some 15, op := Op.fieldAddr 37 (Operand.tmp 5) 4, type := 0, pos := "req.go:61", after := #[], guard := none }) (v := ?_) rfl (by kernel_rfl) (by kernel_rfl) (by kernel_rfl) (fun _ _ _ h => h) (Or.inl ⟨by kernel_rfl, ?_⟩) hHeld ?_
  rotate_left
  · (intro w hSw; (try dsimp only at hSw); have e1 := cell_of_block hSw 1; have e2 := cell_of_block hSw 2; have e3 := cell_of_block hSw 3; have e4 := cell_of_block hSw 4; have e5 := cell_of_block hSw 5; have e6 := cell_of_block hSw 6; go_simp); try with_reducible rfl
  try simp only [Act.put, List.setIfInBounds_toArray, List.set_cons_zero, List.set_cons_succ]
  refine wpAnyH_take (i := 7) (oi := { dst := some 16, op := Op.fieldAddr 33 (Operand.tmp 15) 1, type := 0, pos := "req.go:61", after := #[{ on := 6, ground := Ground.data }], guard := none }) (v := ?_) rfl (by kernel_rfl) (by kernel_rfl) (by kernel_rfl) (fun _ _ _ h => h) (Or.inl ⟨by kernel_rfl, ?_⟩) hHeld ?_
  rotate_left
  · (intro w hSw; (try dsimp only at hSw); have e1 := cell_of_block hSw 1; have e2 := cell_of_block hSw 2; have e3 := cell_of_block hSw 3; have e4 := cell_of_block hSw 4; have e5 := cell_of_block hSw 5; have e6 := cell_of_block hSw 6; go_simp); try with_reducible rfl
  try simp only [Act.put, List.setIfInBounds_toArray, List.set_cons_zero, List.set_cons_succ]
  refine wpAnyH_take (i := 8) (oi := { dst := some 17, op := Op.load 31 (Operand.tmp 16), type := 31, pos := "req.go:61", after := #[{ on := 7, ground := Ground.data }], guard := none }) (v := ?_) rfl (by kernel_rfl) (by kernel_rfl) (by kernel_rfl) (fun _ _ _ h => h) (Or.inl ⟨by kernel_rfl, ?_⟩) hHeld ?_
  rotate_left
  · (intro w hSw; (try dsimp only at hSw); have e1 := cell_of_block hSw 1; have e2 := cell_of_block hSw 2; have e3 := cell_of_block hSw 3; have e4 := cell_of_block hSw 4; have e5 := cell_of_block hSw 5; have e6 := cell_of_block hSw 6; go_simp); try with_reducible rfl
  try simp only [Act.put, List.setIfInBounds_toArray, List.set_cons_zero, List.set_cons_succ]
  refine wpAnyH_take (i := 9) (oi := { dst := some 18, op := Op.convert 31 22 (Operand.tmp 17), type := 22, pos := "req.go:61", after := #[{ on := 8, ground := Ground.data }], guard := none }) (v := ?_) rfl (by kernel_rfl) (by kernel_rfl) (by kernel_rfl) (fun _ _ _ h => h) (Or.inl ⟨by kernel_rfl, ?_⟩) hHeld ?_
  rotate_left
  · (intro w hSw; (try dsimp only at hSw); have e1 := cell_of_block hSw 1; have e2 := cell_of_block hSw 2; have e3 := cell_of_block hSw 3; have e4 := cell_of_block hSw 4; have e5 := cell_of_block hSw 5; have e6 := cell_of_block hSw 6; go_simp); try with_reducible rfl
  try simp only [Act.put, List.setIfInBounds_toArray, List.set_cons_zero, List.set_cons_succ]
  refine wpAnyH_take (i := 11) (oi := { dst := some 20, op := Op.fieldAddr 37 (Operand.tmp 5) 4, type := 0, pos := "req.go:61", after := #[], guard := none }) (v := ?_) rfl (by kernel_rfl) (by kernel_rfl) (by kernel_rfl) (fun _ _ _ h => h) (Or.inl ⟨by kernel_rfl, ?_⟩) hHeld ?_
  rotate_left
  · (intro w hSw; (try dsimp only at hSw); have e1 := cell_of_block hSw 1; have e2 := cell_of_block hSw 2; have e3 := cell_of_block hSw 3; have e4 := cell_of_block hSw 4; have e5 := cell_of_block hSw 5; have e6 := cell_of_block hSw 6; go_simp); try with_reducible rfl
  try simp only [Act.put, List.setIfInBounds_toArray, List.set_cons_zero, List.set_cons_succ]
  refine wpAnyH_take (i := 12) (oi := { dst := some 21, op := Op.fieldAddr 33 (Operand.tmp 20) 2, type := 0, pos := "req.go:61", after := #[{ on := 11, ground := Ground.data }], guard := none }) (v := ?_) rfl (by kernel_rfl) (by kernel_rfl) (by kernel_rfl) (fun _ _ _ h => h) (Or.inl ⟨by kernel_rfl, ?_⟩) hHeld ?_
  rotate_left
  · (intro w hSw; (try dsimp only at hSw); have e1 := cell_of_block hSw 1; have e2 := cell_of_block hSw 2; have e3 := cell_of_block hSw 3; have e4 := cell_of_block hSw 4; have e5 := cell_of_block hSw 5; have e6 := cell_of_block hSw 6; go_simp); try with_reducible rfl
  try simp only [Act.put, List.setIfInBounds_toArray, List.set_cons_zero, List.set_cons_succ]
  refine wpAnyH_take (i := 13) (oi := { dst := some 22, op := Op.load 9 (Operand.tmp 21), type := 9, pos := "req.go:61", after := #[{ on := 12, ground := Ground.data }], guard := none }) (v := ?_) rfl (by kernel_rfl) (by kernel_rfl) (by kernel_rfl) (fun _ _ _ h => h) (Or.inl ⟨by kernel_rfl, ?_⟩) hHeld ?_
  rotate_left
  · (intro w hSw; (try dsimp only at hSw); have e1 := cell_of_block hSw 1; have e2 := cell_of_block hSw 2; have e3 := cell_of_block hSw 3; have e4 := cell_of_block hSw 4; have e5 := cell_of_block hSw 5; have e6 := cell_of_block hSw 6; go_simp); try with_reducible rfl
  try simp only [Act.put, List.setIfInBounds_toArray, List.set_cons_zero, List.set_cons_succ]
  refine wpAnyH_ready (rs := [5]) (by kernel_rfl) (by simp) (AllReadyH.cons (o := { dst := some 14, op := Op.call { callee := Callee.value (Operand.func 18), args := #[Operand.tmp 9, Operand.tmp 13, Operand.const (Value.int IntKind.i64 2)], argTypes := #[85, 22, 3] }, type := 85, pos := "req.go:61", after := #[{ on := 0, ground := Ground.data }, { on := 4, ground := Ground.data }], guard := none }) rfl (fun K hK => ?_) AllReadyH.nil)
  have hOld := hide hHeld
  clear hHeld
  go_simp
  refine (HC1.out _ WR0.out).mono ?_
  rintro e v1 ⟨rfl, hw, hb, hk⟩
  have WR1 := hide hw
  have BL1 := hide (BL0.out.trans hb)
  have EB1 := hide (hk.cells EB0.out (by decide))
  clear hw hb hk
  (try go_wp2_with fail)
  refine hK.out _ _ (EB1.out) (fun hHeld => ?_)
  clear hK K hOld
  try simp only [Act.put, List.setIfInBounds_toArray, List.set_cons_zero, List.set_cons_succ]
  refine wpAnyH_ready (rs := [10]) (by kernel_rfl) (by simp) (AllReadyH.cons (o := { dst := some 19, op := Op.call { callee := Callee.value (Operand.func 18), args := #[Operand.tmp 14, Operand.tmp 18, Operand.const (Value.int IntKind.i64 1)], argTypes := #[85, 22, 3] }, type := 85, pos := "req.go:61", after := #[{ on := 5, ground := Ground.data }, { on := 9, ground := Ground.data }, { on := 5, ground := Ground.chain }], guard := none }) rfl (fun K hK => ?_) AllReadyH.nil)
  have hOld := hide hHeld
  clear hHeld
  go_simp
  refine (HC2.out _ WR1.out).mono ?_
  rintro e v2 ⟨rfl, hw, hb, hk⟩
  have WR2 := hide hw
  have BL2 := hide (BL1.out.trans hb)
  have EB2 := hide (hk.cells EB1.out (by decide))
  clear hw hb hk
  (try go_wp2_with fail)
  refine hK.out _ _ (EB2.out) (fun hHeld => ?_)
  clear hK K hOld
  try simp only [Act.put, List.setIfInBounds_toArray, List.set_cons_zero, List.set_cons_succ]
  refine wpAnyH_ready (rs := [14]) (by kernel_rfl) (by simp) (AllReadyH.cons (o := { dst := some 23, op := Op.call { callee := Callee.value (Operand.func 37), args := #[Operand.tmp 19, Operand.tmp 22], argTypes := #[85, 9] }, type := 85, pos := "req.go:61", after := #[{ on := 10, ground := Ground.data }, { on := 13, ground := Ground.data }, { on := 10, ground := Ground.chain }], guard := none }) rfl (fun K hK => ?_) AllReadyH.nil)
  have hOld := hide hHeld
  clear hHeld
  go_simp
  refine (HC3.out _ WR2.out).mono ?_
  rintro e v3 ⟨rfl, hw, hb, hk⟩
  have WR3 := hide hw
  have BL3 := hide (BL2.out.trans hb)
  have EB3 := hide (hk.cells EB2.out (by decide))
  clear hw hb hk
  (try go_wp2_with fail)
  refine hK.out _ _ (EB3.out) (fun hHeld => ?_)
  clear hK K hOld
  try simp only [Act.put, List.setIfInBounds_toArray, List.set_cons_zero, List.set_cons_succ]
  refine wpAnyH_done (by kernel_rfl) ?_ _
  clear hHeld
  go_wp2_with fail
  go_end0
  refine ⟨rfl, ?_, BL3.out⟩
  rw [HEQ.out.1, HEQ.out.2, ← List.append_assoc, ← List.append_assoc]
  exact WR3.out.more (by omega)
set_option maxRecDepth 100000 in
set_option maxHeartbeats 400000 in
theorem wev_none (r : RqM) (hr : RqOk r) (a : Option Addr) (cap q : Nat) (w0 w : World) (hk : r.k = 2 ∨ r.k = 3) (hin : LnIn w0 a r.L) (hlow : Below w0.heap.size w0 w) (T : List UInt8) (hW : WQ w w0.heap.size q true T 8) (hB : w0.heap.size ≤ q) :
    Calls Try.prog 20 #[.pointer (some ⟨q, 0, none⟩), .int .u8 r.k, .agg #[.int .u8 r.ek, .int .u64 r.key, .int .i64 r.ref, .int .i64 r.amt, .int .i64 r.code, .int .u8 r.ak, .string r.name, .slice a r.L.length cap]] w (WEvIs w0 q r T) := by
  have hsz : w0.heap.size ≤ w.heap.size := hlow.size
  have hal := (Below.refl w.heap.size w).alloc (Nat.le_refl _) (.cells #[.int .u8 r.ek, .int .u64 r.key, .int .i64 r.ref, .int .i64 r.amt, .int .i64 r.code, .int .u8 r.ak, .string r.name, .slice a r.L.length cap] 37)
  have EB := hide (heap_new w (.cells #[.int .u8 r.ek, .int .u64 r.key, .int .i64 r.ref, .int .i64 r.amt, .int .i64 r.code, .int .u8 r.ak, .string r.name, .slice a r.L.length cap] 37))
  have WR := hide (hW.below hal)
  have BL := hide (hlow.alloc hsz (.cells #[.int .u8 r.ek, .int .u64 r.key, .int .i64 r.ref, .int .i64 r.amt, .int .i64 r.code, .int .u8 r.ak, .string r.name, .slice a r.L.length cap] 37))
  have HR := hide hr
  have HIN := hide hin
  have HBQ := hide hB
  clear hal hW hlow hr hin hsz hB
  have HEQ := hide (And.intro (encOk_0 (r := r) (by omega)) (encB_0 (r := r) (by omega)))
  rcases hk with hk | hk
  · rw [hk]
    go_enter Try.func20, Try.ntmps20
    go_wp2_with fail
    go_end0
    refine ⟨rfl, ?_, BL.out⟩
    rw [HEQ.out.1, HEQ.out.2, List.append_nil]
    exact WR.out.more (by omega)
  · rw [hk]
    go_enter Try.func20, Try.ntmps20
    go_wp2_with fail
    go_end0
    refine ⟨rfl, ?_, BL.out⟩
    rw [HEQ.out.1, HEQ.out.2, List.append_nil]
    exact WR.out.more (by omega)
set_option maxRecDepth 100000 in
set_option maxHeartbeats 400000 in
theorem wev_lines (r : RqM) (hr : RqOk r) (a : Option Addr) (cap q : Nat) (w0 w : World) (hk : r.k = 4 ∨ r.k = 9) (hin : LnIn w0 a r.L) (hlow : Below w0.heap.size w0 w) (T : List UInt8) (hW : WQ w w0.heap.size q true T 8) (hB : w0.heap.size ≤ q) :
    Calls Try.prog 20 #[.pointer (some ⟨q, 0, none⟩), .int .u8 r.k, .agg #[.int .u8 r.ek, .int .u64 r.key, .int .i64 r.ref, .int .i64 r.amt, .int .i64 r.code, .int .u8 r.ak, .string r.name, .slice a r.L.length cap]] w (WEvIs w0 q r T) := by
  have hsz : w0.heap.size ≤ w.heap.size := hlow.size
  have hal := (Below.refl w.heap.size w).alloc (Nat.le_refl _) (.cells #[.int .u8 r.ek, .int .u64 r.key, .int .i64 r.ref, .int .i64 r.amt, .int .i64 r.code, .int .u8 r.ak, .string r.name, .slice a r.L.length cap] 37)
  have EB := hide (heap_new w (.cells #[.int .u8 r.ek, .int .u64 r.key, .int .i64 r.ref, .int .i64 r.amt, .int .i64 r.code, .int .u8 r.ak, .string r.name, .slice a r.L.length cap] 37))
  have WR := hide (hW.below hal)
  have BL := hide (hlow.alloc hsz (.cells #[.int .u8 r.ek, .int .u64 r.key, .int .i64 r.ref, .int .i64 r.amt, .int .i64 r.code, .int .u8 r.ak, .string r.name, .slice a r.L.length cap] 37))
  have HR := hide hr
  have HIN := hide hin
  have HBQ := hide hB
  clear hal hW hlow hr hin hsz hB
  have HEQ := hide (And.intro (encOk_4 hk) (encB_4 hk))
  have HKEY := hide (fun W hw => wq_number w0.heap.size q true T 8 (by omega) r.key HR.out.key.1 HR.out.key.2 8 W hw HBQ.out)
  have hfk : fitsB r.key.toNat 8 = true := by
    have := HR.out.key
    unfold fitsB
    exact decide_eq_true ⟨by decide, by decide, by show r.key.toNat < 256 ^ 8; omega⟩
  have hpk : putS r.key 8 = putL r.key.toNat 8 := by unfold putS; rw [if_pos (by decide)]; rfl
  rw [hfk, hpk, Bool.and_true] at HKEY
  clear hfk hpk
  have HP := hide (fun W hb hw => wq_post r.L HR.out.few HR.out.L a cap q w0 W HIN.out hb true (T ++ putL r.key.toNat 8) (8 + 8) (by omega) hw HBQ.out)
  rw [Bool.true_and] at HP
  rcases hk with hk | hk
  · rw [hk]
    go_enter Try.func20, Try.ntmps20
    go_upto_region 6 with (fail)
    generalize w.alloc (.cells #[.int .u8 r.ek, .int .u64 r.key, .int .i64 r.ref, .int .i64 r.amt, .int .i64 r.code, .int .u8 r.ak, .string r.name, .slice a r.L.length cap] 37) = w1 at *
    generalize w.heap.size = eb at *
    have e1 := cell_of_block EB.out 1
    have e2 := cell_of_block EB.out 2
    have e3 := cell_of_block EB.out 3
    have e4 := cell_of_block EB.out 4
    have e7 := cell_of_block EB.out 7
    go_wp2_with fail
    refine (HKEY.out _ WR.out).mono ?_
    rintro e w2 ⟨rfl, hw, hb, hk⟩
    have WR2 := hide hw
    have BL2 := hide (BL.out.trans hb)
    have EB2 := hide (hk.cells EB.out (by decide))
    clear hw hb hk e1 e2 e3 e4 e7 WR BL EB HKEY
    have e7 := cell_of_block EB2.out 7
    go_wp2_with fail
    refine (HP.out _ BL2.out WR2.out).mono ?_
    rintro e w3 ⟨rfl, hw, hb⟩
    have WR3 := hide hw
    have BL3 := hide hb
    clear hw hb e7
    go_wp2_with fail
    go_end0
    refine ⟨rfl, ?_, BL3.out⟩
    rw [HEQ.out.1, HEQ.out.2, ← List.append_assoc]
    exact WR3.out.more (by omega)
  · rw [hk]
    go_enter Try.func20, Try.ntmps20
    go_upto_region 6 with (fail)
    generalize w.alloc (.cells #[.int .u8 r.ek, .int .u64 r.key, .int .i64 r.ref, .int .i64 r.amt, .int .i64 r.code, .int .u8 r.ak, .string r.name, .slice a r.L.length cap] 37) = w1 at *
    generalize w.heap.size = eb at *
    have e1 := cell_of_block EB.out 1
    have e2 := cell_of_block EB.out 2
    have e3 := cell_of_block EB.out 3
    have e4 := cell_of_block EB.out 4
    have e7 := cell_of_block EB.out 7
    go_wp2_with fail
    refine (HKEY.out _ WR.out).mono ?_
    rintro e w2 ⟨rfl, hw, hb, hk⟩
    have WR2 := hide hw
    have BL2 := hide (BL.out.trans hb)
    have EB2 := hide (hk.cells EB.out (by decide))
    clear hw hb hk e1 e2 e3 e4 e7 WR BL EB HKEY
    have e7 := cell_of_block EB2.out 7
    go_wp2_with fail
    refine (HP.out _ BL2.out WR2.out).mono ?_
    rintro e w3 ⟨rfl, hw, hb⟩
    have WR3 := hide hw
    have BL3 := hide hb
    clear hw hb e7
    go_wp2_with fail
    go_end0
    refine ⟨rfl, ?_, BL3.out⟩
    rw [HEQ.out.1, HEQ.out.2, ← List.append_assoc]
    exact WR3.out.more (by omega)
set_option maxRecDepth 100000 in
set_option maxHeartbeats 400000 in
theorem wev_five (r : RqM) (hr : RqOk r) (a : Option Addr) (cap q : Nat) (w0 w : World) (hk : r.k = 5) (hin : LnIn w0 a r.L) (hlow : Below w0.heap.size w0 w) (T : List UInt8) (hW : WQ w w0.heap.size q true T 8) (hB : w0.heap.size ≤ q) :
    Calls Try.prog 20 #[.pointer (some ⟨q, 0, none⟩), .int .u8 r.k, .agg #[.int .u8 r.ek, .int .u64 r.key, .int .i64 r.ref, .int .i64 r.amt, .int .i64 r.code, .int .u8 r.ak, .string r.name, .slice a r.L.length cap]] w (WEvIs w0 q r T) := by
  have hsz : w0.heap.size ≤ w.heap.size := hlow.size
  have hal := (Below.refl w.heap.size w).alloc (Nat.le_refl _) (.cells #[.int .u8 r.ek, .int .u64 r.key, .int .i64 r.ref, .int .i64 r.amt, .int .i64 r.code, .int .u8 r.ak, .string r.name, .slice a r.L.length cap] 37)
  have EB := hide (heap_new w (.cells #[.int .u8 r.ek, .int .u64 r.key, .int .i64 r.ref, .int .i64 r.amt, .int .i64 r.code, .int .u8 r.ak, .string r.name, .slice a r.L.length cap] 37))
  have WR := hide (hW.below hal)
  have BL := hide (hlow.alloc hsz (.cells #[.int .u8 r.ek, .int .u64 r.key, .int .i64 r.ref, .int .i64 r.amt, .int .i64 r.code, .int .u8 r.ak, .string r.name, .slice a r.L.length cap] 37))
  have HR := hide hr
  have HIN := hide hin
  have HBQ := hide hB
  clear hal hW hlow hr hin hsz hB
  have HEQ := hide (And.intro (encOk_5 (Or.inl hk)) (encB_5 hk))
  have HKEY := hide (fun W hw => wq_number w0.heap.size q true T 8 (by omega) r.key HR.out.key.1 HR.out.key.2 8 W hw HBQ.out)
  have hfk : fitsB r.key.toNat 8 = true := by
    have := HR.out.key
    unfold fitsB
    exact decide_eq_true ⟨by decide, by decide, by show r.key.toNat < 256 ^ 8; omega⟩
  have hpk : putS r.key 8 = putL r.key.toNat 8 := by unfold putS; rw [if_pos (by decide)]; rfl
  rw [hfk, hpk, Bool.and_true] at HKEY
  clear hfk hpk
  have HC1 := hide (fun W hw => wq_number w0.heap.size q true (T ++ putL r.key.toNat 8) (8 + 8) (by omega) (IntKind.u64.wrap r.ref) (wu64 _).1 (wu64 _).2 4 W hw HBQ.out)
  rw [fit4_is _ HR.out.ref, put4_is, Bool.true_and] at HC1
  rw [hk]
  go_enter Try.func20, Try.ntmps20
  go_upto_region 6 with (fail)
  generalize w.alloc (.cells #[.int .u8 r.ek, .int .u64 r.key, .int .i64 r.ref, .int .i64 r.amt, .int .i64 r.code, .int .u8 r.ak, .string r.name, .slice a r.L.length cap] 37) = w1 at *
  generalize w.heap.size = eb at *
  have e1 := cell_of_block EB.out 1
  have e2 := cell_of_block EB.out 2
  have e3 := cell_of_block EB.out 3
  have e4 := cell_of_block EB.out 4
  have e7 := cell_of_block EB.out 7
  go_wp2_with fail
  refine (HKEY.out _ WR.out).mono ?_
  rintro e w2 ⟨rfl, hw, hb, hk⟩
  have WR2 := hide hw
  have BL2 := hide (BL.out.trans hb)
  have EB2 := hide (hk.cells EB.out (by decide))
  clear hw hb hk e1 e2 e3 e4 e7 WR BL EB HKEY
  have e2 := cell_of_block EB2.out 2
  go_wp2_with fail
  refine (HC1.out _ WR2.out).mono ?_
  rintro e w3 ⟨rfl, hw, hb, -⟩
  have WR3 := hide hw
  have BL3 := hide (BL2.out.trans hb)
  clear hw hb e2
  go_wp2_with fail
  go_end0
  refine ⟨rfl, ?_, BL3.out⟩
  rw [HEQ.out.1, HEQ.out.2, ← List.append_assoc]
  exact WR3.out.more (by omega)
set_option maxRecDepth 100000 in
set_option maxHeartbeats 400000 in
theorem wev_six (r : RqM) (hr : RqOk r) (a : Option Addr) (cap q : Nat) (w0 w : World) (hk : r.k = 6) (hin : LnIn w0 a r.L) (hlow : Below w0.heap.size w0 w) (T : List UInt8) (hW : WQ w w0.heap.size q true T 8) (hB : w0.heap.size ≤ q) :
    Calls Try.prog 20 #[.pointer (some ⟨q, 0, none⟩), .int .u8 r.k, .agg #[.int .u8 r.ek, .int .u64 r.key, .int .i64 r.ref, .int .i64 r.amt, .int .i64 r.code, .int .u8 r.ak, .string r.name, .slice a r.L.length cap]] w (WEvIs w0 q r T) := by
  have hsz : w0.heap.size ≤ w.heap.size := hlow.size
  have hal := (Below.refl w.heap.size w).alloc (Nat.le_refl _) (.cells #[.int .u8 r.ek, .int .u64 r.key, .int .i64 r.ref, .int .i64 r.amt, .int .i64 r.code, .int .u8 r.ak, .string r.name, .slice a r.L.length cap] 37)
  have EB := hide (heap_new w (.cells #[.int .u8 r.ek, .int .u64 r.key, .int .i64 r.ref, .int .i64 r.amt, .int .i64 r.code, .int .u8 r.ak, .string r.name, .slice a r.L.length cap] 37))
  have WR := hide (hW.below hal)
  have BL := hide (hlow.alloc hsz (.cells #[.int .u8 r.ek, .int .u64 r.key, .int .i64 r.ref, .int .i64 r.amt, .int .i64 r.code, .int .u8 r.ak, .string r.name, .slice a r.L.length cap] 37))
  have HR := hide hr
  have HIN := hide hin
  have HBQ := hide hB
  clear hal hW hlow hr hin hsz hB
  have HEQ := hide (And.intro (encOk_5 (Or.inr hk)) (encB_6 hk))
  have HKEY := hide (fun W hw => wq_number w0.heap.size q true T 8 (by omega) r.key HR.out.key.1 HR.out.key.2 8 W hw HBQ.out)
  have hfk : fitsB r.key.toNat 8 = true := by
    have := HR.out.key
    unfold fitsB
    exact decide_eq_true ⟨by decide, by decide, by show r.key.toNat < 256 ^ 8; omega⟩
  have hpk : putS r.key 8 = putL r.key.toNat 8 := by unfold putS; rw [if_pos (by decide)]; rfl
  rw [hfk, hpk, Bool.and_true] at HKEY
  clear hfk hpk
  have HC1 := hide (fun W hw => wq_number w0.heap.size q true (T ++ putL r.key.toNat 8) (8 + 8) (by omega) (IntKind.u64.wrap r.ref) (wu64 _).1 (wu64 _).2 4 W hw HBQ.out)
  rw [fit4_is _ HR.out.ref, put4_is, Bool.true_and] at HC1
  have HC2 := hide (fun W hw => wq_signed w0.heap.size q (fit4 r.ref) (T ++ putL r.key.toNat 8 ++ putL (wu r.ref) 4) (8 + 8 + 8) (by omega) r.amt HR.out.amt W hw HBQ.out)
  rw [show (IntKind.u64.wrap r.amt).toNat = wu r.amt from rfl] at HC2
  rw [hk]
  go_enter Try.func20, Try.ntmps20
  go_upto_region 6 with (fail)
  generalize w.alloc (.cells #[.int .u8 r.ek, .int .u64 r.key, .int .i64 r.ref, .int .i64 r.amt, .int .i64 r.code, .int .u8 r.ak, .string r.name, .slice a r.L.length cap] 37) = w1 at *
  generalize w.heap.size = eb at *
  have e1 := cell_of_block EB.out 1
  have e2 := cell_of_block EB.out 2
  have e3 := cell_of_block EB.out 3
  have e4 := cell_of_block EB.out 4
  have e7 := cell_of_block EB.out 7
  go_wp2_with fail
  refine (HKEY.out _ WR.out).mono ?_
  rintro e w2 ⟨rfl, hw, hb, hk⟩
  have WR2 := hide hw
  have BL2 := hide (BL.out.trans hb)
  have EB2 := hide (hk.cells EB.out (by decide))
  clear hw hb hk e1 e2 e3 e4 e7 WR BL EB HKEY
  go_upto_region 14 with (fail)
  have EB0 := hide (show w2.drew.heap[eb]? = _ from EB2.out)
  have WR0 := hide (show WQ w2.drew w0.heap.size q true (T ++ putL r.key.toNat 8) (8 + 8) from WR2.out)
  have BL0 := hide BL2.out.drew
  clear EB2 WR2 BL2 hk
  refine wp_region_held_drew (S := (fun W => W.heap[eb]? = some (.cells #[.int .u8 r.ek, .int .u64 r.key, .int .i64 r.ref, .int .i64 r.amt, .int .i64 r.code, .int .u8 r.ak, .string r.name, .slice a r.L.length cap] 37 (0, 0)))) (by kernel_rfl) (EB0.out) (fun hHeld => ?_)
  generalize w2.drew = v0 at *
  refine wpAnyH_take (i := 0) (oi := { dst := some 48, op := Op.move (Operand.tmp 0), type := 85, pos := "req.go:73", after := #[], guard := none }) (v := ?_) rfl (by kernel_rfl) (by kernel_rfl) (by kernel_rfl) (fun _ _ _ h => h) (Or.inl ⟨by kernel_rfl, ?_⟩) hHeld ?_
  rotate_left
  · (intro w hSw; (try dsimp only at hSw); have e1 := cell_of_block hSw 1; have e2 := cell_of_block hSw 2; have e3 := cell_of_block hSw 3; have e4 := cell_of_block hSw 4; have e5 := cell_of_block hSw 5; have e6 := cell_of_block hSw 6; go_simp); try with_reducible rfl
  try simp only [Act.put, List.setIfInBounds_toArray, List.set_cons_zero, List.set_cons_succ]
  refine wpAnyH_take (i := 1) (oi := { dst := some 49, op := Op.fieldAddr 37 (Operand.tmp 5) 2, type := 0, pos := "req.go:73", after := #[], guard := none }) (v := ?_) rfl (by kernel_rfl) (by kernel_rfl) (by kernel_rfl) (fun _ _ _ h => h) (Or.inl ⟨by kernel_rfl, ?_⟩) hHeld ?_
  rotate_left
  · (intro w hSw; (try dsimp only at hSw); have e1 := cell_of_block hSw 1; have e2 := cell_of_block hSw 2; have e3 := cell_of_block hSw 3; have e4 := cell_of_block hSw 4; have e5 := cell_of_block hSw 5; have e6 := cell_of_block hSw 6; go_simp); try with_reducible rfl
  try simp only [Act.put, List.setIfInBounds_toArray, List.set_cons_zero, List.set_cons_succ]
  refine wpAnyH_take (i := 2) (oi := { dst := some 50, op := Op.load 3 (Operand.tmp 49), type := 3, pos := "req.go:73", after := #[{ on := 1, ground := Ground.data }], guard := none }) (v := ?_) rfl (by kernel_rfl) (by kernel_rfl) (by kernel_rfl) (fun _ _ _ h => h) (Or.inl ⟨by kernel_rfl, ?_⟩) hHeld ?_
  rotate_left
  · (intro w hSw; (try dsimp only at hSw); have e1 := cell_of_block hSw 1; have e2 := cell_of_block hSw 2; have e3 := cell_of_block hSw 3; have e4 := cell_of_block hSw 4; have e5 := cell_of_block hSw 5; have e6 := cell_of_block hSw 6; go_simp); try with_reducible rfl
  try simp only [Act.put, List.setIfInBounds_toArray, List.set_cons_zero, List.set_cons_succ]
  refine wpAnyH_take (i := 3) (oi := { dst := some 51, op := Op.convert 3 22 (Operand.tmp 50), type := 22, pos := "req.go:73", after := #[{ on := 2, ground := Ground.data }], guard := none }) (v := ?_) rfl (by kernel_rfl) (by kernel_rfl) (by kernel_rfl) (fun _ _ _ h => h) (Or.inl ⟨by kernel_rfl, ?_⟩) hHeld ?_
  rotate_left
  · (intro w hSw; (try dsimp only at hSw); have e1 := cell_of_block hSw 1; have e2 := cell_of_block hSw 2; have e3 := cell_of_block hSw 3; have e4 := cell_of_block hSw 4; have e5 := cell_of_block hSw 5; have e6 := cell_of_block hSw 6; go_simp); try with_reducible rfl
  try simp only [Act.put, List.setIfInBounds_toArray, List.set_cons_zero, List.set_cons_succ]
  refine wpAnyH_take (i := 5) (oi := { dst := some 53, op := Op.fieldAddr 37 (Operand.tmp 5) 3, type := 0, pos := "req.go:73", after := #[], guard := none }) (v := ?_) rfl (by kernel_rfl) (by kernel_rfl) (by kernel_rfl) (fun _ _ _ h => h) (Or.inl ⟨by kernel_rfl, ?_⟩) hHeld ?_
  rotate_left
  · (intro w hSw; (try dsimp only at hSw); have e1 := cell_of_block hSw 1; have e2 := cell_of_block hSw 2; have e3 := cell_of_block hSw 3; have e4 := cell_of_block hSw 4; have e5 := cell_of_block hSw 5; have e6 := cell_of_block hSw 6; go_simp); try with_reducible rfl
  try simp only [Act.put, List.setIfInBounds_toArray, List.set_cons_zero, List.set_cons_succ]
  refine wpAnyH_take (i := 6) (oi := { dst := some 54, op := Op.load 30 (Operand.tmp 53), type := 30, pos := "req.go:73", after := #[{ on := 5, ground := Ground.data }], guard := none }) (v := ?_) rfl (by kernel_rfl) (by kernel_rfl) (by kernel_rfl) (fun _ _ _ h => h) (Or.inl ⟨by kernel_rfl, ?_⟩) hHeld ?_
  rotate_left
  · (intro w hSw; (try dsimp only at hSw); have e1 := cell_of_block hSw 1; have e2 := cell_of_block hSw 2; have e3 := cell_of_block hSw 3; have e4 := cell_of_block hSw 4; have e5 := cell_of_block hSw 5; have e6 := cell_of_block hSw 6; go_simp); try with_reducible rfl
  try simp only [Act.put, List.setIfInBounds_toArray, List.set_cons_zero, List.set_cons_succ]
  refine wpAnyH_ready (rs := [4]) (by kernel_rfl) (by simp) (AllReadyH.cons (o := { dst := some 52, op := Op.call { callee := Callee.value (Operand.func 18), args := #[Operand.tmp 48, Operand.tmp 51, Operand.const (Value.int IntKind.i64 4)], argTypes := #[85, 22, 3] }, type := 85, pos := "req.go:73", after := #[{ on := 0, ground := Ground.data }, { on := 3, ground := Ground.data }], guard := none }) rfl (fun K hK => ?_) AllReadyH.nil)
  have hOld := hide hHeld
  clear hHeld
  go_simp
  refine (HC1.out _ WR0.out).mono ?_
  rintro e v1 ⟨rfl, hw, hb, hk⟩
  have WR1 := hide hw
  have BL1 := hide (BL0.out.trans hb)
  have EB1 := hide (hk.cells EB0.out (by decide))
  clear hw hb hk
  (try go_wp2_with fail)
  refine hK.out _ _ (EB1.out) (fun hHeld => ?_)
  clear hK K hOld
  try simp only [Act.put, List.setIfInBounds_toArray, List.set_cons_zero, List.set_cons_succ]
  refine wpAnyH_ready (rs := [7]) (by kernel_rfl) (by simp) (AllReadyH.cons (o := { dst := some 55, op := Op.call { callee := Callee.value (Operand.func 39), args := #[Operand.tmp 52, Operand.tmp 54], argTypes := #[85, 2] }, type := 85, pos := "req.go:73", after := #[{ on := 4, ground := Ground.data }, { on := 6, ground := Ground.data }, { on := 4, ground := Ground.chain }], guard := none }) rfl (fun K hK => ?_) AllReadyH.nil)
  have hOld := hide hHeld
  clear hHeld
  go_simp
  refine (HC2.out _ WR1.out).mono ?_
  rintro e v2 ⟨rfl, hw, hb, hk⟩
  have WR2 := hide hw
  have BL2 := hide (BL1.out.trans hb)
  have EB2 := hide (hk.cells EB1.out (by decide))
  clear hw hb hk
  (try go_wp2_with fail)
  refine hK.out _ _ (EB2.out) (fun hHeld => ?_)
  clear hK K hOld
  try simp only [Act.put, List.setIfInBounds_toArray, List.set_cons_zero, List.set_cons_succ]
  refine wpAnyH_done (by kernel_rfl) ?_ _
  clear hHeld
  go_wp2_with fail
  go_end0
  refine ⟨rfl, ?_, BL2.out⟩
  rw [HEQ.out.1, HEQ.out.2, ← List.append_assoc, ← List.append_assoc]
  exact WR2.out.more (by omega)
set_option maxRecDepth 100000 in
set_option maxHeartbeats 400000 in
theorem wev_inout (r : RqM) (hr : RqOk r) (a : Option Addr) (cap q : Nat) (w0 w : World) (hk : r.k = 7 ∨ r.k = 8) (hin : LnIn w0 a r.L) (hlow : Below w0.heap.size w0 w) (T : List UInt8) (hW : WQ w w0.heap.size q true T 8) (hB : w0.heap.size ≤ q) :
    Calls Try.prog 20 #[.pointer (some ⟨q, 0, none⟩), .int .u8 r.k, .agg #[.int .u8 r.ek, .int .u64 r.key, .int .i64 r.ref, .int .i64 r.amt, .int .i64 r.code, .int .u8 r.ak, .string r.name, .slice a r.L.length cap]] w (WEvIs w0 q r T) := by
  have hsz : w0.heap.size ≤ w.heap.size := hlow.size
  have hal := (Below.refl w.heap.size w).alloc (Nat.le_refl _) (.cells #[.int .u8 r.ek, .int .u64 r.key, .int .i64 r.ref, .int .i64 r.amt, .int .i64 r.code, .int .u8 r.ak, .string r.name, .slice a r.L.length cap] 37)
  have EB := hide (heap_new w (.cells #[.int .u8 r.ek, .int .u64 r.key, .int .i64 r.ref, .int .i64 r.amt, .int .i64 r.code, .int .u8 r.ak, .string r.name, .slice a r.L.length cap] 37))
  have WR := hide (hW.below hal)
  have BL := hide (hlow.alloc hsz (.cells #[.int .u8 r.ek, .int .u64 r.key, .int .i64 r.ref, .int .i64 r.amt, .int .i64 r.code, .int .u8 r.ak, .string r.name, .slice a r.L.length cap] 37))
  have HR := hide hr
  have HIN := hide hin
  have HBQ := hide hB
  clear hal hW hlow hr hin hsz hB
  have HEQ := hide (And.intro (encOk_7 hk) (encB_7 hk))
  have HKEY := hide (fun W hw => wq_number w0.heap.size q true T 8 (by omega) r.key HR.out.key.1 HR.out.key.2 8 W hw HBQ.out)
  have hfk : fitsB r.key.toNat 8 = true := by
    have := HR.out.key
    unfold fitsB
    exact decide_eq_true ⟨by decide, by decide, by show r.key.toNat < 256 ^ 8; omega⟩
  have hpk : putS r.key 8 = putL r.key.toNat 8 := by unfold putS; rw [if_pos (by decide)]; rfl
  rw [hfk, hpk, Bool.and_true] at HKEY
  clear hfk hpk
  have HC1 := hide (fun W hw => wq_signed w0.heap.size q true (T ++ putL r.key.toNat 8) (8 + 8) (by omega) r.amt HR.out.amt W hw HBQ.out)
  rw [show (IntKind.u64.wrap r.amt).toNat = wu r.amt from rfl] at HC1
  have HC2 := hide (fun W hw => wq_number w0.heap.size q true (T ++ putL r.key.toNat 8 ++ putL (wu r.amt) 8) (8 + 8 + 8) (by omega) (IntKind.u64.wrap r.code) (wu64 _).1 (wu64 _).2 2 W hw HBQ.out)
  rw [fit2_is _ HR.out.code, put2_is, Bool.true_and] at HC2
  rcases hk with hk | hk
  · rw [hk]
    go_enter Try.func20, Try.ntmps20
    go_upto_region 6 with (fail)
    generalize w.alloc (.cells #[.int .u8 r.ek, .int .u64 r.key, .int .i64 r.ref, .int .i64 r.amt, .int .i64 r.code, .int .u8 r.ak, .string r.name, .slice a r.L.length cap] 37) = w1 at *
    generalize w.heap.size = eb at *
    have e1 := cell_of_block EB.out 1
    have e2 := cell_of_block EB.out 2
    have e3 := cell_of_block EB.out 3
    have e4 := cell_of_block EB.out 4
    have e7 := cell_of_block EB.out 7
    go_wp2_with fail
    refine (HKEY.out _ WR.out).mono ?_
    rintro e w2 ⟨rfl, hw, hb, hk⟩
    have WR2 := hide hw
    have BL2 := hide (BL.out.trans hb)
    have EB2 := hide (hk.cells EB.out (by decide))
    clear hw hb hk e1 e2 e3 e4 e7 WR BL EB HKEY
    go_upto_region 17 with (fail)
    have EB0 := hide (show w2.drew.heap[eb]? = _ from EB2.out)
    have WR0 := hide (show WQ w2.drew w0.heap.size q true (T ++ putL r.key.toNat 8) (8 + 8) from WR2.out)
    have BL0 := hide BL2.out.drew
    clear EB2 WR2 BL2 hk
    refine wp_region_held_drew (S := (fun W => W.heap[eb]? = some (.cells #[.int .u8 r.ek, .int .u64 r.key, .int .i64 r.ref, .int .i64 r.amt, .int .i64 r.code, .int .u8 r.ak, .string r.name, .slice a r.L.length cap] 37 (0, 0)))) (by kernel_rfl) (EB0.out) (fun hHeld => ?_)
    generalize w2.drew = v0 at *
    refine wpAnyH_take (i := 0) (oi := { dst := some 59, op := Op.move (Operand.tmp 0), type := 85, pos := "req.go:75", after := #[], guard := none }) (v := ?_) rfl (by kernel_rfl) (by kernel_rfl) (by kernel_rfl) (fun _ _ _ h => h) (Or.inl ⟨by kernel_rfl, ?_⟩) hHeld ?_
    rotate_left
    · (intro w hSw; (try dsimp only at hSw); have e1 := cell_of_block hSw 1; have e2 := cell_of_block hSw 2; have e3 := cell_of_block hSw 3; have e4 := cell_of_block hSw 4; have e5 := cell_of_block hSw 5; have e6 := cell_of_block hSw 6; go_simp); try with_reducible rfl
    try simp only [Act.put, List.setIfInBounds_toArray, List.set_cons_zero, List.set_cons_succ]
    refine wpAnyH_take (i := 1) (oi := { dst := some 60, op := Op.fieldAddr 37 (Operand.tmp 5) 3, type := 0, pos := "req.go:75", after := #[], guard := none }) (v := ?_) rfl (by kernel_rfl) (by kernel_rfl) (by kernel_rfl) (fun _ _ _ h => h) (Or.inl ⟨by kernel_rfl, ?_⟩) hHeld ?_
    rotate_left
    · (intro w hSw; (try dsimp only at hSw); have e1 := cell_of_block hSw 1; have e2 := cell_of_block hSw 2; have e3 := cell_of_block hSw 3; have e4 := cell_of_block hSw 4; have e5 := cell_of_block hSw 5; have e6 := cell_of_block hSw 6; go_simp); try with_reducible rfl
    try simp only [Act.put, List.setIfInBounds_toArray, List.set_cons_zero, List.set_cons_succ]
    refine wpAnyH_take (i := 2) (oi := { dst := some 61, op := Op.load 30 (Operand.tmp 60), type := 30, pos := "req.go:75", after := #[{ on := 1, ground := Ground.data }], guard := none }) (v := ?_) rfl (by kernel_rfl) (by kernel_rfl) (by kernel_rfl) (fun _ _ _ h => h) (Or.inl ⟨by kernel_rfl, ?_⟩) hHeld ?_
    rotate_left
    · (intro w hSw; (try dsimp only at hSw); have e1 := cell_of_block hSw 1; have e2 := cell_of_block hSw 2; have e3 := cell_of_block hSw 3; have e4 := cell_of_block hSw 4; have e5 := cell_of_block hSw 5; have e6 := cell_of_block hSw 6; go_simp); try with_reducible rfl
    try simp only [Act.put, List.setIfInBounds_toArray, List.set_cons_zero, List.set_cons_succ]
    refine wpAnyH_take (i := 4) (oi := { dst := some 63, op := Op.fieldAddr 37 (Operand.tmp 5) 4, type := 0, pos := "req.go:75", after := #[], guard := none }) (v := ?_) rfl (by kernel_rfl) (by kernel_rfl) (by kernel_rfl) (fun _ _ _ h => h) (Or.inl ⟨by kernel_rfl, ?_⟩) hHeld ?_
    rotate_left
    · (intro w hSw; (try dsimp only at hSw); have e1 := cell_of_block hSw 1; have e2 := cell_of_block hSw 2; have e3 := cell_of_block hSw 3; have e4 := cell_of_block hSw 4; have e5 := cell_of_block hSw 5; have e6 := cell_of_block hSw 6; go_simp); try with_reducible rfl
    try simp only [Act.put, List.setIfInBounds_toArray, List.set_cons_zero, List.set_cons_succ]
    refine wpAnyH_take (i := 5) (oi := { dst := some 64, op := Op.fieldAddr 33 (Operand.tmp 63) 0, type := 0, pos := "req.go:75", after := #[{ on := 4, ground := Ground.data }], guard := none }) (v := ?_) rfl (by kernel_rfl) (by kernel_rfl) (by kernel_rfl) (fun _ _ _ h => h) (Or.inl ⟨by kernel_rfl, ?_⟩) hHeld ?_
    rotate_left
    · (intro w hSw; (try dsimp only at hSw); have e1 := cell_of_block hSw 1; have e2 := cell_of_block hSw 2; have e3 := cell_of_block hSw 3; have e4 := cell_of_block hSw 4; have e5 := cell_of_block hSw 5; have e6 := cell_of_block hSw 6; go_simp); try with_reducible rfl
    try simp only [Act.put, List.setIfInBounds_toArray, List.set_cons_zero, List.set_cons_succ]
    refine wpAnyH_take (i := 6) (oi := { dst := some 65, op := Op.load 3 (Operand.tmp 64), type := 3, pos := "req.go:75", after := #[{ on := 5, ground := Ground.data }], guard := none }) (v := ?_) rfl (by kernel_rfl) (by kernel_rfl) (by kernel_rfl) (fun _ _ _ h => h) (Or.inl ⟨by kernel_rfl, ?_⟩) hHeld ?_
    rotate_left
    · (intro w hSw; (try dsimp only at hSw); have e1 := cell_of_block hSw 1; have e2 := cell_of_block hSw 2; have e3 := cell_of_block hSw 3; have e4 := cell_of_block hSw 4; have e5 := cell_of_block hSw 5; have e6 := cell_of_block hSw 6; go_simp); try with_reducible rfl
    try simp only [Act.put, List.setIfInBounds_toArray, List.set_cons_zero, List.set_cons_succ]
    refine wpAnyH_take (i := 7) (oi := { dst := some 66, op := Op.convert 3 22 (Operand.tmp 65), type := 22, pos := "req.go:75", after := #[{ on := 6, ground := Ground.data }], guard := none }) (v := ?_) rfl (by kernel_rfl) (by kernel_rfl) (by kernel_rfl) (fun _ _ _ h => h) (Or.inl ⟨by kernel_rfl, ?_⟩) hHeld ?_
    rotate_left
    · (intro w hSw; (try dsimp only at hSw); have e1 := cell_of_block hSw 1; have e2 := cell_of_block hSw 2; have e3 := cell_of_block hSw 3; have e4 := cell_of_block hSw 4; have e5 := cell_of_block hSw 5; have e6 := cell_of_block hSw 6; go_simp); try with_reducible rfl
    try simp only [Act.put, List.setIfInBounds_toArray, List.set_cons_zero, List.set_cons_succ]
    refine wpAnyH_ready (rs := [3]) (by kernel_rfl) (by simp) (AllReadyH.cons (o := { dst := some 62, op := Op.call { callee := Callee.value (Operand.func 39), args := #[Operand.tmp 59, Operand.tmp 61], argTypes := #[85, 2] }, type := 85, pos := "req.go:75", after := #[{ on := 0, ground := Ground.data }, { on := 2, ground := Ground.data }], guard := none }) rfl (fun K hK => ?_) AllReadyH.nil)
    have hOld := hide hHeld
    clear hHeld
    go_simp
    refine (HC1.out _ WR0.out).mono ?_
    rintro e v1 ⟨rfl, hw, hb, hk⟩
    have WR1 := hide hw
    have BL1 := hide (BL0.out.trans hb)
    have EB1 := hide (hk.cells EB0.out (by decide))
    clear hw hb hk
    (try go_wp2_with fail)
    refine hK.out _ _ (EB1.out) (fun hHeld => ?_)
    clear hK K hOld
    try simp only [Act.put, List.setIfInBounds_toArray, List.set_cons_zero, List.set_cons_succ]
    refine wpAnyH_ready (rs := [8]) (by kernel_rfl) (by simp) (AllReadyH.cons (o := { dst := some 67, op := Op.call { callee := Callee.value (Operand.func 18), args := #[Operand.tmp 62, Operand.tmp 66, Operand.const (Value.int IntKind.i64 2)], argTypes := #[85, 22, 3] }, type := 85, pos := "req.go:75", after := #[{ on := 3, ground := Ground.data }, { on := 7, ground := Ground.data }, { on := 3, ground := Ground.chain }], guard := none }) rfl (fun K hK => ?_) AllReadyH.nil)
    have hOld := hide hHeld
    clear hHeld
    go_simp
    refine (HC2.out _ WR1.out).mono ?_
    rintro e v2 ⟨rfl, hw, hb, hk⟩
    have WR2 := hide hw
    have BL2 := hide (BL1.out.trans hb)
    have EB2 := hide (hk.cells EB1.out (by decide))
    clear hw hb hk
    (try go_wp2_with fail)
    refine hK.out _ _ (EB2.out) (fun hHeld => ?_)
    clear hK K hOld
    try simp only [Act.put, List.setIfInBounds_toArray, List.set_cons_zero, List.set_cons_succ]
    refine wpAnyH_done (by kernel_rfl) ?_ _
    clear hHeld
    go_wp2_with fail
    go_end0
    refine ⟨rfl, ?_, BL2.out⟩
    rw [HEQ.out.1, HEQ.out.2, ← List.append_assoc, ← List.append_assoc]
    exact WR2.out.more (by omega)
  · rw [hk]
    go_enter Try.func20, Try.ntmps20
    go_upto_region 6 with (fail)
    generalize w.alloc (.cells #[.int .u8 r.ek, .int .u64 r.key, .int .i64 r.ref, .int .i64 r.amt, .int .i64 r.code, .int .u8 r.ak, .string r.name, .slice a r.L.length cap] 37) = w1 at *
    generalize w.heap.size = eb at *
    have e1 := cell_of_block EB.out 1
    have e2 := cell_of_block EB.out 2
    have e3 := cell_of_block EB.out 3
    have e4 := cell_of_block EB.out 4
    have e7 := cell_of_block EB.out 7
    go_wp2_with fail
    refine (HKEY.out _ WR.out).mono ?_
    rintro e w2 ⟨rfl, hw, hb, hk⟩
    have WR2 := hide hw
    have BL2 := hide (BL.out.trans hb)
    have EB2 := hide (hk.cells EB.out (by decide))
    clear hw hb hk e1 e2 e3 e4 e7 WR BL EB HKEY
    go_upto_region 17 with (fail)
    have EB0 := hide (show w2.drew.heap[eb]? = _ from EB2.out)
    have WR0 := hide (show WQ w2.drew w0.heap.size q true (T ++ putL r.key.toNat 8) (8 + 8) from WR2.out)
    have BL0 := hide BL2.out.drew
    clear EB2 WR2 BL2 hk
    refine wp_region_held_drew (S := (fun W => W.heap[eb]? = some (.cells #[.int .u8 r.ek, .int .u64 r.key, .int .i64 r.ref, .int .i64 r.amt, .int .i64 r.code, .int .u8 r.ak, .string r.name, .slice a r.L.length cap] 37 (0, 0)))) (by kernel_rfl) (EB0.out) (fun hHeld => ?_)
    generalize w2.drew = v0 at *
    refine wpAnyH_take (i := 0) (oi := { dst := some 59, op := Op.move (Operand.tmp 0), type := 85, pos := "req.go:75", after := #[], guard := none }) (v := ?_) rfl (by kernel_rfl) (by kernel_rfl) (by kernel_rfl) (fun _ _ _ h => h) (Or.inl ⟨by kernel_rfl, ?_⟩) hHeld ?_
    rotate_left
    · (intro w hSw; (try dsimp only at hSw); have e1 := cell_of_block hSw 1; have e2 := cell_of_block hSw 2; have e3 := cell_of_block hSw 3; have e4 := cell_of_block hSw 4; have e5 := cell_of_block hSw 5; have e6 := cell_of_block hSw 6; go_simp); try with_reducible rfl
    try simp only [Act.put, List.setIfInBounds_toArray, List.set_cons_zero, List.set_cons_succ]
    refine wpAnyH_take (i := 1) (oi := { dst := some 60, op := Op.fieldAddr 37 (Operand.tmp 5) 3, type := 0, pos := "req.go:75", after := #[], guard := none }) (v := ?_) rfl (by kernel_rfl) (by kernel_rfl) (by kernel_rfl) (fun _ _ _ h => h) (Or.inl ⟨by kernel_rfl, ?_⟩) hHeld ?_
    rotate_left
    · (intro w hSw; (try dsimp only at hSw); have e1 := cell_of_block hSw 1; have e2 := cell_of_block hSw 2; have e3 := cell_of_block hSw 3; have e4 := cell_of_block hSw 4; have e5 := cell_of_block hSw 5; have e6 := cell_of_block hSw 6; go_simp); try with_reducible rfl
    try simp only [Act.put, List.setIfInBounds_toArray, List.set_cons_zero, List.set_cons_succ]
    refine wpAnyH_take (i := 2) (oi := { dst := some 61, op := Op.load 30 (Operand.tmp 60), type := 30, pos := "req.go:75", after := #[{ on := 1, ground := Ground.data }], guard := none }) (v := ?_) rfl (by kernel_rfl) (by kernel_rfl) (by kernel_rfl) (fun _ _ _ h => h) (Or.inl ⟨by kernel_rfl, ?_⟩) hHeld ?_
    rotate_left
    · (intro w hSw; (try dsimp only at hSw); have e1 := cell_of_block hSw 1; have e2 := cell_of_block hSw 2; have e3 := cell_of_block hSw 3; have e4 := cell_of_block hSw 4; have e5 := cell_of_block hSw 5; have e6 := cell_of_block hSw 6; go_simp); try with_reducible rfl
    try simp only [Act.put, List.setIfInBounds_toArray, List.set_cons_zero, List.set_cons_succ]
    refine wpAnyH_take (i := 4) (oi := { dst := some 63, op := Op.fieldAddr 37 (Operand.tmp 5) 4, type := 0, pos := "req.go:75", after := #[], guard := none }) (v := ?_) rfl (by kernel_rfl) (by kernel_rfl) (by kernel_rfl) (fun _ _ _ h => h) (Or.inl ⟨by kernel_rfl, ?_⟩) hHeld ?_
    rotate_left
    · (intro w hSw; (try dsimp only at hSw); have e1 := cell_of_block hSw 1; have e2 := cell_of_block hSw 2; have e3 := cell_of_block hSw 3; have e4 := cell_of_block hSw 4; have e5 := cell_of_block hSw 5; have e6 := cell_of_block hSw 6; go_simp); try with_reducible rfl
    try simp only [Act.put, List.setIfInBounds_toArray, List.set_cons_zero, List.set_cons_succ]
    refine wpAnyH_take (i := 5) (oi := { dst := some 64, op := Op.fieldAddr 33 (Operand.tmp 63) 0, type := 0, pos := "req.go:75", after := #[{ on := 4, ground := Ground.data }], guard := none }) (v := ?_) rfl (by kernel_rfl) (by kernel_rfl) (by kernel_rfl) (fun _ _ _ h => h) (Or.inl ⟨by kernel_rfl, ?_⟩) hHeld ?_
    rotate_left
    · (intro w hSw; (try dsimp only at hSw); have e1 := cell_of_block hSw 1; have e2 := cell_of_block hSw 2; have e3 := cell_of_block hSw 3; have e4 := cell_of_block hSw 4; have e5 := cell_of_block hSw 5; have e6 := cell_of_block hSw 6; go_simp); try with_reducible rfl
    try simp only [Act.put, List.setIfInBounds_toArray, List.set_cons_zero, List.set_cons_succ]
    refine wpAnyH_take (i := 6) (oi := { dst := some 65, op := Op.load 3 (Operand.tmp 64), type := 3, pos := "req.go:75", after := #[{ on := 5, ground := Ground.data }], guard := none }) (v := ?_) rfl (by kernel_rfl) (by kernel_rfl) (by kernel_rfl) (fun _ _ _ h => h) (Or.inl ⟨by kernel_rfl, ?_⟩) hHeld ?_
    rotate_left
    · (intro w hSw; (try dsimp only at hSw); have e1 := cell_of_block hSw 1; have e2 := cell_of_block hSw 2; have e3 := cell_of_block hSw 3; have e4 := cell_of_block hSw 4; have e5 := cell_of_block hSw 5; have e6 := cell_of_block hSw 6; go_simp); try with_reducible rfl
    try simp only [Act.put, List.setIfInBounds_toArray, List.set_cons_zero, List.set_cons_succ]
    refine wpAnyH_take (i := 7) (oi := { dst := some 66, op := Op.convert 3 22 (Operand.tmp 65), type := 22, pos := "req.go:75", after := #[{ on := 6, ground := Ground.data }], guard := none }) (v := ?_) rfl (by kernel_rfl) (by kernel_rfl) (by kernel_rfl) (fun _ _ _ h => h) (Or.inl ⟨by kernel_rfl, ?_⟩) hHeld ?_
    rotate_left
    · (intro w hSw; (try dsimp only at hSw); have e1 := cell_of_block hSw 1; have e2 := cell_of_block hSw 2; have e3 := cell_of_block hSw 3; have e4 := cell_of_block hSw 4; have e5 := cell_of_block hSw 5; have e6 := cell_of_block hSw 6; go_simp); try with_reducible rfl
    try simp only [Act.put, List.setIfInBounds_toArray, List.set_cons_zero, List.set_cons_succ]
    refine wpAnyH_ready (rs := [3]) (by kernel_rfl) (by simp) (AllReadyH.cons (o := { dst := some 62, op := Op.call { callee := Callee.value (Operand.func 39), args := #[Operand.tmp 59, Operand.tmp 61], argTypes := #[85, 2] }, type := 85, pos := "req.go:75", after := #[{ on := 0, ground := Ground.data }, { on := 2, ground := Ground.data }], guard := none }) rfl (fun K hK => ?_) AllReadyH.nil)
    have hOld := hide hHeld
    clear hHeld
    go_simp
    refine (HC1.out _ WR0.out).mono ?_
    rintro e v1 ⟨rfl, hw, hb, hk⟩
    have WR1 := hide hw
    have BL1 := hide (BL0.out.trans hb)
    have EB1 := hide (hk.cells EB0.out (by decide))
    clear hw hb hk
    (try go_wp2_with fail)
    refine hK.out _ _ (EB1.out) (fun hHeld => ?_)
    clear hK K hOld
    try simp only [Act.put, List.setIfInBounds_toArray, List.set_cons_zero, List.set_cons_succ]
    refine wpAnyH_ready (rs := [8]) (by kernel_rfl) (by simp) (AllReadyH.cons (o := { dst := some 67, op := Op.call { callee := Callee.value (Operand.func 18), args := #[Operand.tmp 62, Operand.tmp 66, Operand.const (Value.int IntKind.i64 2)], argTypes := #[85, 22, 3] }, type := 85, pos := "req.go:75", after := #[{ on := 3, ground := Ground.data }, { on := 7, ground := Ground.data }, { on := 3, ground := Ground.chain }], guard := none }) rfl (fun K hK => ?_) AllReadyH.nil)
    have hOld := hide hHeld
    clear hHeld
    go_simp
    refine (HC2.out _ WR1.out).mono ?_
    rintro e v2 ⟨rfl, hw, hb, hk⟩
    have WR2 := hide hw
    have BL2 := hide (BL1.out.trans hb)
    have EB2 := hide (hk.cells EB1.out (by decide))
    clear hw hb hk
    (try go_wp2_with fail)
    refine hK.out _ _ (EB2.out) (fun hHeld => ?_)
    clear hK K hOld
    try simp only [Act.put, List.setIfInBounds_toArray, List.set_cons_zero, List.set_cons_succ]
    refine wpAnyH_done (by kernel_rfl) ?_ _
    clear hHeld
    go_wp2_with fail
    go_end0
    refine ⟨rfl, ?_, BL2.out⟩
    rw [HEQ.out.1, HEQ.out.2, ← List.append_assoc, ← List.append_assoc]
    exact WR2.out.more (by omega)
theorem wev_any (r : RqM) (hr : RqOk r) (hk : 1 ≤ r.k ∧ r.k ≤ 9) (a : Option Addr) (cap q : Nat) (w0 w : World) (hin : LnIn w0 a r.L) (hlow : Below w0.heap.size w0 w) (T : List UInt8) (hW : WQ w w0.heap.size q true T 8) (hB : w0.heap.size ≤ q) :
    Calls Try.prog 20 #[.pointer (some ⟨q, 0, none⟩), .int .u8 r.k, .agg #[.int .u8 r.ek, .int .u64 r.key, .int .i64 r.ref, .int .i64 r.amt, .int .i64 r.code, .int .u8 r.ak, .string r.name, .slice a r.L.length cap]] w (WEvIs w0 q r T) := by
  have hc : r.k = 1 ∨ (r.k = 2 ∨ r.k = 3) ∨ (r.k = 4 ∨ r.k = 9) ∨ r.k = 5 ∨ r.k = 6 ∨ (r.k = 7 ∨ r.k = 8) := by omega
  rcases hc with h | h | h | h | h | h
  · exact wev_one r hr a cap q w0 w h hin hlow T hW hB
  · exact wev_none r hr a cap q w0 w h hin hlow T hW hB
  · exact wev_lines r hr a cap q w0 w h hin hlow T hW hB
  · exact wev_five r hr a cap q w0 w h hin hlow T hW hB
  · exact wev_six r hr a cap q w0 w h hin hlow T hW hB
  · exact wev_inout r hr a cap q w0 w h hin hlow T hW hB
end Go.Proofs.Ytkbikflincjhhaa
