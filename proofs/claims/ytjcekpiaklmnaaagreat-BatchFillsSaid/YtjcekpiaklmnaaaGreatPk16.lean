/-
  Lemmas and contracts of this project's own, put together: Bat4, Bat5.
-/
import Derived.Deep.CutBlock
import Derived.Test.YtjcekpiaklmnaaaGreatPk15
namespace Go.Proofs.YtjcekpiaklmnaaaGreat
set_option linter.unusedSimpArgs false
set_option linter.unusedVariables false
open Go.RowKit Go.WideShapes Go.ChangeShapes Go.ChangeAt Go.Deep
def bS0 : ChipM := newS 6 4 32
def bK0 : List KnM := List.replicate 6 ⟨false, -1⟩
def bL0 : List (Int × Int) := List.replicate 6 (1, 0)
def Fresh14 (w : World) (e : Ending) (w' : World) : Prop := ∃ (p q d b pp pq sb : Nat) (G : Nat → Nat), e = .returned (.tuple #[.pointer (some ⟨p, 0, none⟩), .pointer (some ⟨d, 0, none⟩), .pointer (some ⟨pp, 0, none⟩), .pointer (some ⟨sb, 0, none⟩), .bool true]) ∧ StAt w' w.heap.size sb d b p q w.heap.size G bS0 bK0 pp pq bL0 (-1) 0 ∧ Below w.heap.size w w'
set_option maxRecDepth 100000 in
set_option maxHeartbeats 2000000 in
theorem fresh14 (w : World) : Calls Tryz.prog 5 #[] w (Fresh14 w) := by
  have HNEW := hide (fun W => new_go 6 4 32 (by decide) [] (.slice none 0 0) W (Or.inl ⟨rfl, rfl⟩) (by decide))
  have HD := hide (fun p q B G W (hW : NandAt W p q B G bS0) => dnew_go W hW)
  have HP := hide (fun W => pnew_yes 6 (by decide) (by decide) W)
  have HB := hide (fun d b p q B G pp pq W (hD : DriveAt W d b p q B G bS0 bK0) (hP : PoolAt W pp pq (List.replicate 6 (1, 0))) => bnew_any 6 (by decide) W hD hP)
  unfold BNewIs at HB
  unfold Fresh14
  go_enter Tryz.func5, Tryz.ntmps5
  go_wp2_with fail
  refine (HNEW.out _).mono ?_
  rintro e w1 ⟨p, q, G, rfl, hn, hb⟩
  have HN := hide (show NandAt w1 p q w.heap.size G bS0 from hn)
  have B1 := hide hb
  clear hn HNEW hb
  go_wp2_with fail
  refine (HD.out _ _ _ _ _ HN.out).mono ?_
  rintro e w2 ⟨d, b, rfl, hd, hb2, h1, h2⟩
  have D2 := hide (show DriveAt w2 d b p q w.heap.size G bS0 bK0 from hd)
  have HBB := hide (show w.heap.size ≤ b from Nat.le_trans B1.out.size h1)
  have B2 := hide (B1.out.trans (hb2.mono B1.out.size))
  clear hd hb2 h1 h2 HD HN
  go_wp2_with fail
  refine (HP.out _).mono ?_
  rintro e w3 ⟨rfl, hp, hb⟩
  have P3 := hide hp
  have D3 := hide (D2.out.below hb)
  have B3 := hide (B2.out.trans (hb.mono B2.out.size))
  have HPQ := hide (show w.heap.size ≤ w2.heap.size from B2.out.size)
  clear hp hb HP D2
  generalize w2.heap.size = pq at *
  obtain ⟨pp, hpp⟩ : ∃ pp, pq + 1 = pp := ⟨_, rfl⟩
  rw [hpp] at P3 ⊢
  clear hpp
  go_wp2_with fail
  refine (HB.out _ _ _ _ _ _ _ _ _ D3.out P3.out).mono ?_
  rintro e w4 ⟨hc, hb⟩
  have D4 := hide (D3.out.below hb)
  have P4 := hide (P3.out.below hb)
  have B4 := hide (B3.out.trans (hb.mono B3.out.size))
  rcases hc with ⟨-, rfl, hs, hh⟩ | ⟨hne, -⟩
  · have S4 := hide (show StAt w4 w.heap.size (w4.heap.size - 1) d b p q w.heap.size G bS0 bK0 pp pq bL0 (-1) 0 from ⟨hh, D4.out, P4.out, ⟨Nat.le_trans B3.out.size hs, Nat.le_refl _, HBB.out, HPQ.out⟩⟩)
    clear hb hs hh
    generalize w4.heap.size - 1 = sb at *
    go_wp2_with fail
    refine bodyPost_ret (v := .tuple #[.pointer (some ⟨p, 0, none⟩), .pointer (some ⟨d, 0, none⟩), .pointer (some ⟨pp, 0, none⟩), .pointer (some ⟨sb, 0, none⟩), .bool true]) ?_ rfl ⟨p, q, d, b, pp, pq, sb, G, rfl, S4.out, B4.out⟩
    simp [results, Tryz.results5, go_sem]
  · exact absurd rfl hne
theorem open_blk {S : ChipM} {N : Int} (h : Heal S N) (k : Nat) (hk : k < S.L.length) (sq : Int) (i : Nat) : (openS S k sq).blk i = if i = k then laidB (erasedS S k) k 0 (bs (zerosL S.size)) (bs (frameL 2 0 sq 0 1 (zerosL S.size))) else S.blk i := by
  have h1 := erase_dims h k hk
  unfold openS
  rw [prog_blk (erase_heal h k hk) k (by rw [h1.1]; exact hk)]
  split
  · rfl
  · next hh => rw [erase_blk h k hk, if_neg hh]
theorem open_next {S : ChipM} {N : Int} (h : Heal S N) (k : Nat) (hk : k < S.L.length) (sq : Int) : ((openS S k sq).blk k).next = 1 ∧ ((openS S k sq).blk k).erased = (S.blk k).erased + 1 := by
  rw [open_blk h k hk, if_pos rfl]
  refine ⟨rfl, ?_⟩
  show ((erasedS S k).blk k).erased = _
  rw [erase_blk h k hk, if_pos rfl]
  rfl
theorem openK_at (K : List KnM) (k : Nat) (hk : k < K.length) : (openK K k).getD k kn0 = ⟨false, 1⟩ := by unfold openK; simp [List.getD, hk]
theorem openK_len (K : List KnM) (k : Nat) : (openK K k).length = K.length := by unfold openK; simp
theorem openK_other (K : List KnM) (k i : Nat) (hi : i ≠ k) : (openK K k).getD i kn0 = K.getD i kn0 := by unfold openK; simp [List.getD, List.getElem?_set, Ne.symm hi]
theorem eql_place (W : World) : (binOp BinOp.eql 34 (.agg #[.int .i64 0, .int .i64 1]) (.agg #[.int .i64 0, .int .i64 1])).run Tryz.prog W = .ok (.bool true) W := by kernel_rfl
theorem guard_place (x y : Operand) (a b : Array Value) (w : World) : (eqGuard .eql 34 x y (.agg a) (.agg b)).run Tryz.prog w = .ok () w := run_eqGuard_agg w .eql 34 x y a b (by kernel_rfl)
theorem eql_tagB (W : World) : (binOp BinOp.eql 40 (.agg #[.int .u8 2, .int .i64 0, .int .u64 1, .int .i64 0, .int .i64 1]) (.agg #[.int .u8 2, .int .i64 0, .int .u64 1, .int .i64 0, .int .i64 1])).run Tryz.prog W = .ok (.bool true) W := by kernel_rfl
theorem guard_tagB (x y : Operand) (a b : Array Value) (w : World) : (eqGuard .eql 40 x y (.agg a) (.agg b)).run Tryz.prog w = .ok () w := run_eqGuard_agg w .eql 40 x y a b (by kernel_rfl)
theorem bS0_heal : Heal bS0 0 := new_heal 6 4 32 (by decide) (by decide)
theorem bL0_take : takeZ false bL0 = (((0 : Nat) : Int), 0) := by decide +kernel
set_option maxRecDepth 100000 in
set_option maxHeartbeats 8000000 in
theorem wakes14 (w : World) : Calls Tryz.prog 12 #[] w fun e w' => e = .returned (.bool true) ∧ Below w.heap.size w w' := by
  have HFR := hide (fun W => fresh14 W)
  unfold Fresh14 at HFR
  have HFU := hide (fun W => full14_any ⟨#[97]⟩ (by decide) 32 (by decide) W)
  have hfz : (fullB ⟨#[97]⟩ 32).size = 32 := fullB_size _ _
  obtain ⟨td, htd⟩ : ∃ td : List UInt8, td = (fullB ⟨#[97]⟩ 32).data.toList := ⟨_, rfl⟩
  have htb : fullB ⟨#[97]⟩ 32 = bs td := by rw [htd]; rfl
  have hl : td.length = 32 := by rw [htb] at hfz; exact hfz
  rw [htb] at HFU
  clear htd hfz htb
  obtain ⟨L2, hL2⟩ : ∃ L2, (takeL false bL0).set 0 (((takeL false bL0).getD 0 (0, 0)).1, 1) = L2 := ⟨_, rfl⟩
  have HWR := hide (show sndZ L2 0 = 1 from by rw [← hL2]; decide +kernel)
  have hh1 := open_heal bS0_heal 0 (by decide +kernel) 1
  have hd1 := open_dims bS0_heal 0 (by decide +kernel) 1
  have hn1 := open_next bS0_heal 0 (by decide +kernel) 1
  have HPUT := hide (fun q0 sb d b p q G pp pq W (hW : StAt W q0 sb d b p q q0 G bS0 bK0 pp pq bL0 (-1) 0) => put_go (S := bS0) (S1 := openS bS0 0 1) (K := bK0) (K1 := openK bK0 0) (L := bL0) (L1 := L2) (op := -1) (lf := 0) (lf1 := 3) (N := 0 + 2) 0 1
    (.inr ⟨rfl, fun W hW => (begin_ok (L1 := takeL false bL0) 0 bL0_take rfl (by decide) bS0_heal (by decide) (by decide +kernel) (by decide +kernel) (by decide +kernel) 1 (by decide +kernel) (by decide) (by decide) W hW).mono (fun e w' h => ⟨h.1, by rw [← hL2]; exact h.2.1, h.2.2⟩)⟩)
    hh1 (by decide) hd1 (by rw [openK_len, hd1.1]; decide +kernel) (by rw [hd1.1]; decide +kernel) (by rw [hd1.2.1]; decide +kernel) hn1.1 (openK_at bK0 0 (by decide +kernel)) (by decide) 1 3 1 0 1 (by unfold TagOk; decide) (by decide) (by decide) td (by rw [hd1.2.2]; exact hl) W hW)
  have hrd : readP (progS (openS bS0 0 1) 0 1 (bs td) (bs (frameL 1 3 1 0 1 td))) 0 0 = (bs (zerosL 32), bs (frameL 2 0 1 0 1 (zerosL 32))) := rfl
  have hask : askE (progS (openS bS0 0 1) 0 1 (bs td) (bs (frameL 1 3 1 0 1 td))) 0 0 = 0 := rfl
  have hsin : (progS (openS bS0 0 1) 0 1 (bs td) (bs (frameL 1 3 1 0 1 td))).sins = 0 := rfl
  unfold PutIs at HPUT
  rw [show (3 : Int) - 1 = 2 from rfl] at HPUT
  clear hh1 hd1 hn1 hl hL2
  have hT : TagOk 2 0 0 1 := by unfold TagOk; decide
  generalize progS (openS bS0 0 1) 0 1 (bs td) (bs (frameL 1 3 1 0 1 td)) = S2 at *
  generalize (openK bK0 0).set 0 ⟨false, ((1 : Nat) : Int) + 1⟩ = K2 at *
  have HRD := hide (fun d b p q B G W (hW : DriveAt W d b p q B G S2 K2) => dread_tag 0 0 2 0 1 0 1 hT (by decide) (by decide) (zerosL 32) (by decide) hask hrd W hW)
  have HSI := hide (fun p q B G W (hW : NandAt W p q B G S2) => sins_any p q B G S2 W hW)
  rw [hsin] at HSI
  unfold pageC at HRD
  clear hrd hask hsin hT
  generalize bs (zerosL 32) = zs at *
  generalize bs td = t at *
  generalize bS0 = S0 at *
  generalize bK0 = K0 at *
  generalize bL0 = L0 at *
  go_enter Tryz.func12, Tryz.ntmps12
  go_wp2_with fail
  refine (HFR.out _).mono ?_
  rintro e w1 ⟨p, q, d, b, pp, pq, sb, G, rfl, hs, hb⟩
  obtain ⟨q0, hq0⟩ : ∃ q0, w.heap.size = q0 := ⟨_, rfl⟩
  rw [hq0] at hs hb
  have HQ0 := hide hq0
  have X1 := hide hs
  have B1 := hide hb
  clear hs hb hq0 HFR
  have HPUT := hide (fun W hW => HPUT.out q0 sb d b p q G pp pq W hW)
  go_upto_region 3 with (refine rw_store rfl 40 (.tmp 6) (.tmp 18) rfl w1.heap.size rfl #[.int .u8 1, .int .i64 3, .int .u64 1, .int .i64 0, .int .i64 1] rfl _ (heap_new w1 _) (by kernel_rfl) rfl (by simp [Value.oneCell']) ?_)
  have XB := hide (heap_new w1 (.cells #[.int .u8 0, .int .i64 0, .int .u64 0, .int .i64 0, .int .i64 0] 40))
  have hal := (Below.refl w1.heap.size w1).alloc (Nat.le_refl _) (.cells #[.int .u8 0, .int .i64 0, .int .u64 0, .int .i64 0, .int .i64 0] 40)
  have hbb := setRow_below (hal.trans (Below.refl _ _)) (Nat.le_refl _) hal.size (#[.int .u8 1, .int .i64 3, .int .u64 1, .int .i64 0, .int .i64 1] : Array Value)
  have T2 := hide (setRow_same (cs := (#[.int .u8 1, .int .i64 3, .int .u64 1, .int .i64 0, .int .i64 1] : Array Value)) XB.out)
  have X2 := hide (X1.out.below hbb)
  have B2 := hide (B1.out.trans (hbb.mono X1.out.size))
  clear hal hbb XB X1 B1
  generalize (w1.alloc (.cells #[.int .u8 0, .int .i64 0, .int .u64 0, .int .i64 0, .int .i64 0] 40)).setRow w1.heap.size (#[.int .u8 1, .int .i64 3, .int .u64 1, .int .i64 0, .int .i64 1] : Array Value) = w2 at *
  generalize w1.heap.size = tb at *
  have X0 := hide X2.out.drew
  have T0 := hide (show w2.drew.heap[tb]? = _ from T2.out)
  have BB0 := hide (show Below q0 w w2.drew from B2.out.drew)
  clear X2 T2 B2
  (try rw [show ∀ (a : Act) (v : Value), a.put none v = a from fun _ _ => rfl])
  go_cut [7, 8] from 19 to 26 (fun s7 s8 W => ∃ ab : Nat, s7 = .pointer (some ⟨ab, 0, none⟩) ∧ s8 = .int .i64 0 ∧ W.heap[ab]? = some (.cells #[.int .i64 0, .int .i64 1] 34 (0, 0)) ∧ StAt W q0 sb d b p q q0 G S2 K2 pp pq L2 0 2 ∧ Below q0 w W)
  case first =>
    refine wp_region_held_drew (S := (fun W => W.heap[tb]? = some (.cells #[.int .u8 1, .int .i64 3, .int .u64 1, .int .i64 0, .int .i64 1] 40 (0, 0)))) (by kernel_rfl) (T0.out) (fun hHeld => ?_)
    generalize w2.drew = v0 at *
    refine wpAnyH_take (i := 0) (oi := { dst := some 20, op := Op.move (Operand.tmp 4), type := 25, pos := "law.go:45", after := #[], guard := none }) (v := ?_) rfl (by kernel_rfl) (by kernel_rfl) (by kernel_rfl) (fun _ _ _ h => h) (Or.inl ⟨by kernel_rfl, ?_⟩) hHeld ?_
    rotate_left
    · (intro w hSw; (try dsimp only at hSw); have e0 := cell_of_block hSw 0; have e1 := cell_of_block hSw 1; have e2 := cell_of_block hSw 2; have e3 := cell_of_block hSw 3; have e4 := cell_of_block hSw 4; go_simp); try with_reducible rfl
    try simp only [Act.put, List.setIfInBounds_toArray, List.set_cons_zero, List.set_cons_succ]
    refine wpAnyH_take (i := 1) (oi := { dst := some 21, op := Op.load 40 (Operand.tmp 6), type := 40, pos := "law.go:45", after := #[], guard := none }) (v := ?_) rfl (by kernel_rfl) (by kernel_rfl) (by kernel_rfl) (fun _ _ _ h => h) (Or.inl ⟨by kernel_rfl, ?_⟩) hHeld ?_
    rotate_left
    · (intro w hSw; (try dsimp only at hSw); have e0 := cell_of_block hSw 0; have e1 := cell_of_block hSw 1; have e2 := cell_of_block hSw 2; have e3 := cell_of_block hSw 3; have e4 := cell_of_block hSw 4; go_simp); try with_reducible rfl
    try simp only [Act.put, List.setIfInBounds_toArray, List.set_cons_zero, List.set_cons_succ]
    refine wpAnyH_ready (rs := [2, 7]) (by kernel_rfl) (by simp) (AllReadyH.cons (o := { dst := some 22, op := Op.call { callee := Callee.value (Operand.func 10), args := #[Operand.const (Value.string { data := #[97] }), Operand.const (Value.int IntKind.i64 32)], argTypes := #[9, 3] }, type := 9, pos := "law.go:45", after := #[], guard := none }) rfl (fun K hK => ?_) (AllReadyH.cons (o := { dst := some 7, op := Op.alloc 34, type := 0, pos := "law.go:45", after := #[], guard := none }) rfl (fun K hK => ?_) AllReadyH.nil))
    · have hOld := hide hHeld
      clear hHeld
      go_simp
      refine (HFU.out _).mono ?_
      rintro e v1 ⟨rfl, hb⟩
      have X1 := hide (X0.out.below hb)
      have T1 := hide ((hb.block _ (heap_lt T0.out)).trans T0.out)
      have BB1 := hide (BB0.out.trans (hb.mono X0.out.size))
      clear hb
      (try go_wp2_with fail)
      refine hK.out _ _ (T1.out) (fun hHeld => ?_)
      clear hK K hOld
      try simp only [Act.put, List.setIfInBounds_toArray, List.set_cons_zero, List.set_cons_succ]
      refine wpAnyH_ready (rs := [3, 7]) (by kernel_rfl) (by simp) (AllReadyH.cons (o := { dst := some 23, op := Op.call { callee := Callee.value (Operand.func 9), args := #[Operand.tmp 20, Operand.tmp 21, Operand.tmp 22], argTypes := #[25, 40, 9] }, type := 35, pos := "law.go:45", after := #[{ on := 0, ground := Ground.data }, { on := 1, ground := Ground.data }, { on := 2, ground := Ground.data }, { on := 2, ground := Ground.chain }], guard := none }) rfl (fun K hK => ?_) (AllReadyH.cons (o := { dst := some 7, op := Op.alloc 34, type := 0, pos := "law.go:45", after := #[], guard := none }) rfl (fun K hK => ?_) AllReadyH.nil))
      · have hOld := hide hHeld
        clear hHeld
        go_simp
        refine (HPUT.out _ X1.out).mono ?_
        rintro e v2 ⟨rfl, hs, hb⟩
        have X2 := hide hs
        have T2 := hide (hb.keep T1.out (by decide))
        have BB2 := hide (BB1.out.trans hb.1)
        clear hs hb
        (try go_wp2_with fail)
        refine hK.out _ _ (T2.out) (fun hHeld => ?_)
        clear hK K hOld
        try simp only [Act.put, List.setIfInBounds_toArray, List.set_cons_zero, List.set_cons_succ]
        refine wpAnyH_take (i := 4) (oi := { dst := some 19, op := Op.move (Operand.tmp 23), type := 35, pos := "law.go:45", after := #[{ on := 3, ground := Ground.data }], guard := none }) (v := ?_) rfl (by kernel_rfl) (by kernel_rfl) (by kernel_rfl) (fun _ _ _ h => h) (Or.inl ⟨by kernel_rfl, ?_⟩) hHeld ?_
        rotate_left
        · (intro w hSw; (try dsimp only at hSw); have e0 := cell_of_block hSw 0; have e1 := cell_of_block hSw 1; have e2 := cell_of_block hSw 2; have e3 := cell_of_block hSw 3; have e4 := cell_of_block hSw 4; go_simp); try with_reducible rfl
        try simp only [Act.put, List.setIfInBounds_toArray, List.set_cons_zero, List.set_cons_succ]
        refine wpAnyH_take (i := 5) (oi := { dst := some 24, op := Op.extract (Operand.tmp 19) 0, type := 34, pos := "law.go:45", after := #[{ on := 4, ground := Ground.data }], guard := none }) (v := ?_) rfl (by kernel_rfl) (by kernel_rfl) (by kernel_rfl) (fun _ _ _ h => h) (Or.inl ⟨by kernel_rfl, ?_⟩) hHeld ?_
        rotate_left
        · (intro w hSw; (try dsimp only at hSw); have e0 := cell_of_block hSw 0; have e1 := cell_of_block hSw 1; have e2 := cell_of_block hSw 2; have e3 := cell_of_block hSw 3; have e4 := cell_of_block hSw 4; go_simp); try with_reducible rfl
        try simp only [Act.put, List.setIfInBounds_toArray, List.set_cons_zero, List.set_cons_succ]
        refine wpAnyH_take (i := 6) (oi := { dst := some 25, op := Op.extract (Operand.tmp 19) 1, type := 28, pos := "law.go:45", after := #[{ on := 4, ground := Ground.data }, { on := 8, ground := Ground.gcOnly Departure.lateStores }], guard := none }) (v := ?_) rfl (by kernel_rfl) (by kernel_rfl) (by kernel_rfl) (fun _ _ _ h => h) (Or.inl ⟨by kernel_rfl, ?_⟩) hHeld ?_
        rotate_left
        · (intro w hSw; (try dsimp only at hSw); have e0 := cell_of_block hSw 0; have e1 := cell_of_block hSw 1; have e2 := cell_of_block hSw 2; have e3 := cell_of_block hSw 3; have e4 := cell_of_block hSw 4; go_simp); try with_reducible rfl
        try simp only [Act.put, List.setIfInBounds_toArray, List.set_cons_zero, List.set_cons_succ]
        refine wpAnyH_ready (rs := [7]) (by kernel_rfl) (by simp) (AllReadyH.cons (o := { dst := some 7, op := Op.alloc 34, type := 0, pos := "law.go:45", after := #[], guard := none }) rfl (fun K hK => ?_) AllReadyH.nil)
        have hOld := hide hHeld
        clear hHeld
        go_simp
        have hal := (Below.refl v2.heap.size v2).alloc (Nat.le_refl _) (.cells #[.int .i64 0, .int .i64 0] 34)
        have A3 := hide (heap_new v2 (.cells #[.int .i64 0, .int .i64 0] 34))
        have X3 := hide (X2.out.below hal)
        have T3 := hide ((hal.block _ (heap_lt T2.out)).trans T2.out)
        have BB3 := hide (BB2.out.trans (hal.mono X2.out.size))
        have HAB := hide (show q0 ≤ v2.heap.size from X2.out.size)
        clear hal
        generalize v2.alloc (.cells #[.int .i64 0, .int .i64 0] 34) = v3 at *
        generalize v2.heap.size = ab at *
        (try go_wp2_with fail)
        refine hK.out _ _ (T3.out) (fun hHeld => ?_)
        clear hK K hOld
        try simp only [Act.put, List.setIfInBounds_toArray, List.set_cons_zero, List.set_cons_succ]
        refine wpAnyH_ready (rs := [8]) (by kernel_rfl) (by simp) (AllReadyH.cons (o := { dst := none, op := Op.store 34 (Operand.tmp 7) (Operand.tmp 24), type := 0, pos := "law.go:45", after := #[{ on := 7, ground := Ground.data }, { on := 5, ground := Ground.data }, { on := 3, ground := Ground.chain }, { on := 0, ground := Ground.phase }, { on := 1, ground := Ground.phase }, { on := 2, ground := Ground.phase }, { on := 3, ground := Ground.phase }, { on := 4, ground := Ground.phase }, { on := 5, ground := Ground.phase }, { on := 6, ground := Ground.textOnly Departure.lateStores }, { on := 7, ground := Ground.phase }], guard := none }) rfl (fun K hK => ?_) AllReadyH.nil)
        have hOld := hide hHeld
        clear hHeld
        refine rw_storeO 34 (.tmp 7) (.tmp 24) rfl ab rfl #[.int .i64 0, .int .i64 1] rfl _ A3.out (by kernel_rfl) rfl (by simp [Value.oneCell']) ?_
        have KF := setRow_keeps (Ts := [34]) A3.out (by decide) (#[.int .i64 0, .int .i64 1] : Array Value)
        have A4 := hide (setRow_same (cs := (#[.int .i64 0, .int .i64 1] : Array Value)) A3.out)
        have X4 := hide (X3.out.keepsT KF (by decide) (by decide) (by decide) (by decide) (by decide) (by decide) (by decide) (by decide))
        have T4 := hide (KF.cells T3.out (by decide))
        have BB4 := hide (setRow_below BB3.out HAB.out X3.out.size (#[.int .i64 0, .int .i64 1] : Array Value))
        clear KF
        generalize v3.setRow ab (#[.int .i64 0, .int .i64 1] : Array Value) = v4 at *
        refine hK.out _ _ (T4.out) (fun hHeld => ?_)
        clear hK K hOld
        try simp only [Act.put, List.setIfInBounds_toArray, List.set_cons_zero, List.set_cons_succ]
        refine wpAnyH_take (i := 9) (oi := { dst := some 8, op := Op.assign (Operand.tmp 25), type := 28, pos := "law.go:45", after := #[{ on := 6, ground := Ground.data }, { on := 8, ground := Ground.chain }, { on := 0, ground := Ground.phase }, { on := 1, ground := Ground.phase }, { on := 2, ground := Ground.phase }, { on := 3, ground := Ground.phase }, { on := 4, ground := Ground.phase }, { on := 5, ground := Ground.phase }, { on := 6, ground := Ground.phase }, { on := 7, ground := Ground.phase }, { on := 8, ground := Ground.phase }], guard := none }) (v := ?_) rfl (by kernel_rfl) (by kernel_rfl) (by kernel_rfl) (fun _ _ _ h => h) (Or.inl ⟨by kernel_rfl, ?_⟩) hHeld ?_
        rotate_left
        · (intro w hSw; (try dsimp only at hSw); have e0 := cell_of_block hSw 0; have e1 := cell_of_block hSw 1; have e2 := cell_of_block hSw 2; have e3 := cell_of_block hSw 3; have e4 := cell_of_block hSw 4; go_simp); try with_reducible rfl
        try simp only [Act.put, List.setIfInBounds_toArray, List.set_cons_zero, List.set_cons_succ]
        refine wpAnyH_done (by kernel_rfl) ?_ _
        clear hHeld
        go_wp2_with fail
        go_meet
        exact ⟨ab, rfl, rfl, A4.out, X4.out, BB4.out⟩
      · have hOld := hide hHeld
        clear hHeld
        go_simp
        have hal := (Below.refl v1.heap.size v1).alloc (Nat.le_refl _) (.cells #[.int .i64 0, .int .i64 0] 34)
        have A2 := hide (heap_new v1 (.cells #[.int .i64 0, .int .i64 0] 34))
        have X2 := hide (X1.out.below hal)
        have T2 := hide ((hal.block _ (heap_lt T1.out)).trans T1.out)
        have BB2 := hide (BB1.out.trans (hal.mono X1.out.size))
        have HAB := hide (show q0 ≤ v1.heap.size from X1.out.size)
        clear hal
        generalize v1.alloc (.cells #[.int .i64 0, .int .i64 0] 34) = v2 at *
        generalize v1.heap.size = ab at *
        (try go_wp2_with fail)
        refine hK.out _ _ (T2.out) (fun hHeld => ?_)
        clear hK K hOld
        try simp only [Act.put, List.setIfInBounds_toArray, List.set_cons_zero, List.set_cons_succ]
        refine wpAnyH_ready (rs := [3]) (by kernel_rfl) (by simp) (AllReadyH.cons (o := { dst := some 23, op := Op.call { callee := Callee.value (Operand.func 9), args := #[Operand.tmp 20, Operand.tmp 21, Operand.tmp 22], argTypes := #[25, 40, 9] }, type := 35, pos := "law.go:45", after := #[{ on := 0, ground := Ground.data }, { on := 1, ground := Ground.data }, { on := 2, ground := Ground.data }, { on := 2, ground := Ground.chain }], guard := none }) rfl (fun K hK => ?_) AllReadyH.nil)
        have hOld := hide hHeld
        clear hHeld
        go_simp
        refine (HPUT.out _ X2.out).mono ?_
        rintro e v3 ⟨rfl, hs, hb⟩
        have X3 := hide hs
        have T3 := hide (hb.keep T2.out (by decide))
        have A3 := hide (hb.keep A2.out (by decide))
        have BB3 := hide (BB2.out.trans hb.1)
        clear hs hb
        (try go_wp2_with fail)
        refine hK.out _ _ (T3.out) (fun hHeld => ?_)
        clear hK K hOld
        try simp only [Act.put, List.setIfInBounds_toArray, List.set_cons_zero, List.set_cons_succ]
        refine wpAnyH_take (i := 4) (oi := { dst := some 19, op := Op.move (Operand.tmp 23), type := 35, pos := "law.go:45", after := #[{ on := 3, ground := Ground.data }], guard := none }) (v := ?_) rfl (by kernel_rfl) (by kernel_rfl) (by kernel_rfl) (fun _ _ _ h => h) (Or.inl ⟨by kernel_rfl, ?_⟩) hHeld ?_
        rotate_left
        · (intro w hSw; (try dsimp only at hSw); have e0 := cell_of_block hSw 0; have e1 := cell_of_block hSw 1; have e2 := cell_of_block hSw 2; have e3 := cell_of_block hSw 3; have e4 := cell_of_block hSw 4; go_simp); try with_reducible rfl
        try simp only [Act.put, List.setIfInBounds_toArray, List.set_cons_zero, List.set_cons_succ]
        refine wpAnyH_take (i := 5) (oi := { dst := some 24, op := Op.extract (Operand.tmp 19) 0, type := 34, pos := "law.go:45", after := #[{ on := 4, ground := Ground.data }], guard := none }) (v := ?_) rfl (by kernel_rfl) (by kernel_rfl) (by kernel_rfl) (fun _ _ _ h => h) (Or.inl ⟨by kernel_rfl, ?_⟩) hHeld ?_
        rotate_left
        · (intro w hSw; (try dsimp only at hSw); have e0 := cell_of_block hSw 0; have e1 := cell_of_block hSw 1; have e2 := cell_of_block hSw 2; have e3 := cell_of_block hSw 3; have e4 := cell_of_block hSw 4; go_simp); try with_reducible rfl
        try simp only [Act.put, List.setIfInBounds_toArray, List.set_cons_zero, List.set_cons_succ]
        refine wpAnyH_take (i := 6) (oi := { dst := some 25, op := Op.extract (Operand.tmp 19) 1, type := 28, pos := "law.go:45", after := #[{ on := 4, ground := Ground.data }, { on := 8, ground := Ground.gcOnly Departure.lateStores }], guard := none }) (v := ?_) rfl (by kernel_rfl) (by kernel_rfl) (by kernel_rfl) (fun _ _ _ h => h) (Or.inl ⟨by kernel_rfl, ?_⟩) hHeld ?_
        rotate_left
        · (intro w hSw; (try dsimp only at hSw); have e0 := cell_of_block hSw 0; have e1 := cell_of_block hSw 1; have e2 := cell_of_block hSw 2; have e3 := cell_of_block hSw 3; have e4 := cell_of_block hSw 4; go_simp); try with_reducible rfl
        try simp only [Act.put, List.setIfInBounds_toArray, List.set_cons_zero, List.set_cons_succ]
        refine wpAnyH_ready (rs := [8]) (by kernel_rfl) (by simp) (AllReadyH.cons (o := { dst := none, op := Op.store 34 (Operand.tmp 7) (Operand.tmp 24), type := 0, pos := "law.go:45", after := #[{ on := 7, ground := Ground.data }, { on := 5, ground := Ground.data }, { on := 3, ground := Ground.chain }, { on := 0, ground := Ground.phase }, { on := 1, ground := Ground.phase }, { on := 2, ground := Ground.phase }, { on := 3, ground := Ground.phase }, { on := 4, ground := Ground.phase }, { on := 5, ground := Ground.phase }, { on := 6, ground := Ground.textOnly Departure.lateStores }, { on := 7, ground := Ground.phase }], guard := none }) rfl (fun K hK => ?_) AllReadyH.nil)
        have hOld := hide hHeld
        clear hHeld
        refine rw_storeO 34 (.tmp 7) (.tmp 24) rfl ab rfl #[.int .i64 0, .int .i64 1] rfl _ A3.out (by kernel_rfl) rfl (by simp [Value.oneCell']) ?_
        have KF := setRow_keeps (Ts := [34]) A3.out (by decide) (#[.int .i64 0, .int .i64 1] : Array Value)
        have A4 := hide (setRow_same (cs := (#[.int .i64 0, .int .i64 1] : Array Value)) A3.out)
        have X4 := hide (X3.out.keepsT KF (by decide) (by decide) (by decide) (by decide) (by decide) (by decide) (by decide) (by decide))
        have T4 := hide (KF.cells T3.out (by decide))
        have BB4 := hide (setRow_below BB3.out HAB.out X3.out.size (#[.int .i64 0, .int .i64 1] : Array Value))
        clear KF
        generalize v3.setRow ab (#[.int .i64 0, .int .i64 1] : Array Value) = v4 at *
        refine hK.out _ _ (T4.out) (fun hHeld => ?_)
        clear hK K hOld
        try simp only [Act.put, List.setIfInBounds_toArray, List.set_cons_zero, List.set_cons_succ]
        refine wpAnyH_take (i := 9) (oi := { dst := some 8, op := Op.assign (Operand.tmp 25), type := 28, pos := "law.go:45", after := #[{ on := 6, ground := Ground.data }, { on := 8, ground := Ground.chain }, { on := 0, ground := Ground.phase }, { on := 1, ground := Ground.phase }, { on := 2, ground := Ground.phase }, { on := 3, ground := Ground.phase }, { on := 4, ground := Ground.phase }, { on := 5, ground := Ground.phase }, { on := 6, ground := Ground.phase }, { on := 7, ground := Ground.phase }, { on := 8, ground := Ground.phase }], guard := none }) (v := ?_) rfl (by kernel_rfl) (by kernel_rfl) (by kernel_rfl) (fun _ _ _ h => h) (Or.inl ⟨by kernel_rfl, ?_⟩) hHeld ?_
        rotate_left
        · (intro w hSw; (try dsimp only at hSw); have e0 := cell_of_block hSw 0; have e1 := cell_of_block hSw 1; have e2 := cell_of_block hSw 2; have e3 := cell_of_block hSw 3; have e4 := cell_of_block hSw 4; go_simp); try with_reducible rfl
        try simp only [Act.put, List.setIfInBounds_toArray, List.set_cons_zero, List.set_cons_succ]
        refine wpAnyH_done (by kernel_rfl) ?_ _
        clear hHeld
        go_wp2_with fail
        go_meet
        exact ⟨ab, rfl, rfl, A4.out, X4.out, BB4.out⟩
    · have hOld := hide hHeld
      clear hHeld
      go_simp
      have hal := (Below.refl v0.heap.size v0).alloc (Nat.le_refl _) (.cells #[.int .i64 0, .int .i64 0] 34)
      have A1 := hide (heap_new v0 (.cells #[.int .i64 0, .int .i64 0] 34))
      have X1 := hide (X0.out.below hal)
      have T1 := hide ((hal.block _ (heap_lt T0.out)).trans T0.out)
      have BB1 := hide (BB0.out.trans (hal.mono X0.out.size))
      have HAB := hide (show q0 ≤ v0.heap.size from X0.out.size)
      clear hal
      generalize v0.alloc (.cells #[.int .i64 0, .int .i64 0] 34) = v1 at *
      generalize v0.heap.size = ab at *
      (try go_wp2_with fail)
      refine hK.out _ _ (T1.out) (fun hHeld => ?_)
      clear hK K hOld
      try simp only [Act.put, List.setIfInBounds_toArray, List.set_cons_zero, List.set_cons_succ]
      refine wpAnyH_ready (rs := [2]) (by kernel_rfl) (by simp) (AllReadyH.cons (o := { dst := some 22, op := Op.call { callee := Callee.value (Operand.func 10), args := #[Operand.const (Value.string { data := #[97] }), Operand.const (Value.int IntKind.i64 32)], argTypes := #[9, 3] }, type := 9, pos := "law.go:45", after := #[], guard := none }) rfl (fun K hK => ?_) AllReadyH.nil)
      have hOld := hide hHeld
      clear hHeld
      go_simp
      refine (HFU.out _).mono ?_
      rintro e v2 ⟨rfl, hb⟩
      have X2 := hide (X1.out.below hb)
      have T2 := hide ((hb.block _ (heap_lt T1.out)).trans T1.out)
      have A2 := hide ((hb.block _ (heap_lt A1.out)).trans A1.out)
      have BB2 := hide (BB1.out.trans (hb.mono X1.out.size))
      clear hb
      (try go_wp2_with fail)
      refine hK.out _ _ (T2.out) (fun hHeld => ?_)
      clear hK K hOld
      try simp only [Act.put, List.setIfInBounds_toArray, List.set_cons_zero, List.set_cons_succ]
      refine wpAnyH_ready (rs := [3]) (by kernel_rfl) (by simp) (AllReadyH.cons (o := { dst := some 23, op := Op.call { callee := Callee.value (Operand.func 9), args := #[Operand.tmp 20, Operand.tmp 21, Operand.tmp 22], argTypes := #[25, 40, 9] }, type := 35, pos := "law.go:45", after := #[{ on := 0, ground := Ground.data }, { on := 1, ground := Ground.data }, { on := 2, ground := Ground.data }, { on := 2, ground := Ground.chain }], guard := none }) rfl (fun K hK => ?_) AllReadyH.nil)
      have hOld := hide hHeld
      clear hHeld
      go_simp
      refine (HPUT.out _ X2.out).mono ?_
      rintro e v3 ⟨rfl, hs, hb⟩
      have X3 := hide hs
      have T3 := hide (hb.keep T2.out (by decide))
      have A3 := hide (hb.keep A2.out (by decide))
      have BB3 := hide (BB2.out.trans hb.1)
      clear hs hb
      (try go_wp2_with fail)
      refine hK.out _ _ (T3.out) (fun hHeld => ?_)
      clear hK K hOld
      try simp only [Act.put, List.setIfInBounds_toArray, List.set_cons_zero, List.set_cons_succ]
      refine wpAnyH_take (i := 4) (oi := { dst := some 19, op := Op.move (Operand.tmp 23), type := 35, pos := "law.go:45", after := #[{ on := 3, ground := Ground.data }], guard := none }) (v := ?_) rfl (by kernel_rfl) (by kernel_rfl) (by kernel_rfl) (fun _ _ _ h => h) (Or.inl ⟨by kernel_rfl, ?_⟩) hHeld ?_
      rotate_left
      · (intro w hSw; (try dsimp only at hSw); have e0 := cell_of_block hSw 0; have e1 := cell_of_block hSw 1; have e2 := cell_of_block hSw 2; have e3 := cell_of_block hSw 3; have e4 := cell_of_block hSw 4; go_simp); try with_reducible rfl
      try simp only [Act.put, List.setIfInBounds_toArray, List.set_cons_zero, List.set_cons_succ]
      refine wpAnyH_take (i := 5) (oi := { dst := some 24, op := Op.extract (Operand.tmp 19) 0, type := 34, pos := "law.go:45", after := #[{ on := 4, ground := Ground.data }], guard := none }) (v := ?_) rfl (by kernel_rfl) (by kernel_rfl) (by kernel_rfl) (fun _ _ _ h => h) (Or.inl ⟨by kernel_rfl, ?_⟩) hHeld ?_
      rotate_left
      · (intro w hSw; (try dsimp only at hSw); have e0 := cell_of_block hSw 0; have e1 := cell_of_block hSw 1; have e2 := cell_of_block hSw 2; have e3 := cell_of_block hSw 3; have e4 := cell_of_block hSw 4; go_simp); try with_reducible rfl
      try simp only [Act.put, List.setIfInBounds_toArray, List.set_cons_zero, List.set_cons_succ]
      refine wpAnyH_take (i := 6) (oi := { dst := some 25, op := Op.extract (Operand.tmp 19) 1, type := 28, pos := "law.go:45", after := #[{ on := 4, ground := Ground.data }, { on := 8, ground := Ground.gcOnly Departure.lateStores }], guard := none }) (v := ?_) rfl (by kernel_rfl) (by kernel_rfl) (by kernel_rfl) (fun _ _ _ h => h) (Or.inl ⟨by kernel_rfl, ?_⟩) hHeld ?_
      rotate_left
      · (intro w hSw; (try dsimp only at hSw); have e0 := cell_of_block hSw 0; have e1 := cell_of_block hSw 1; have e2 := cell_of_block hSw 2; have e3 := cell_of_block hSw 3; have e4 := cell_of_block hSw 4; go_simp); try with_reducible rfl
      try simp only [Act.put, List.setIfInBounds_toArray, List.set_cons_zero, List.set_cons_succ]
      refine wpAnyH_ready (rs := [8]) (by kernel_rfl) (by simp) (AllReadyH.cons (o := { dst := none, op := Op.store 34 (Operand.tmp 7) (Operand.tmp 24), type := 0, pos := "law.go:45", after := #[{ on := 7, ground := Ground.data }, { on := 5, ground := Ground.data }, { on := 3, ground := Ground.chain }, { on := 0, ground := Ground.phase }, { on := 1, ground := Ground.phase }, { on := 2, ground := Ground.phase }, { on := 3, ground := Ground.phase }, { on := 4, ground := Ground.phase }, { on := 5, ground := Ground.phase }, { on := 6, ground := Ground.textOnly Departure.lateStores }, { on := 7, ground := Ground.phase }], guard := none }) rfl (fun K hK => ?_) AllReadyH.nil)
      have hOld := hide hHeld
      clear hHeld
      refine rw_storeO 34 (.tmp 7) (.tmp 24) rfl ab rfl #[.int .i64 0, .int .i64 1] rfl _ A3.out (by kernel_rfl) rfl (by simp [Value.oneCell']) ?_
      have KF := setRow_keeps (Ts := [34]) A3.out (by decide) (#[.int .i64 0, .int .i64 1] : Array Value)
      have A4 := hide (setRow_same (cs := (#[.int .i64 0, .int .i64 1] : Array Value)) A3.out)
      have X4 := hide (X3.out.keepsT KF (by decide) (by decide) (by decide) (by decide) (by decide) (by decide) (by decide) (by decide))
      have T4 := hide (KF.cells T3.out (by decide))
      have BB4 := hide (setRow_below BB3.out HAB.out X3.out.size (#[.int .i64 0, .int .i64 1] : Array Value))
      clear KF
      generalize v3.setRow ab (#[.int .i64 0, .int .i64 1] : Array Value) = v4 at *
      refine hK.out _ _ (T4.out) (fun hHeld => ?_)
      clear hK K hOld
      try simp only [Act.put, List.setIfInBounds_toArray, List.set_cons_zero, List.set_cons_succ]
      refine wpAnyH_take (i := 9) (oi := { dst := some 8, op := Op.assign (Operand.tmp 25), type := 28, pos := "law.go:45", after := #[{ on := 6, ground := Ground.data }, { on := 8, ground := Ground.chain }, { on := 0, ground := Ground.phase }, { on := 1, ground := Ground.phase }, { on := 2, ground := Ground.phase }, { on := 3, ground := Ground.phase }, { on := 4, ground := Ground.phase }, { on := 5, ground := Ground.phase }, { on := 6, ground := Ground.phase }, { on := 7, ground := Ground.phase }, { on := 8, ground := Ground.phase }], guard := none }) (v := ?_) rfl (by kernel_rfl) (by kernel_rfl) (by kernel_rfl) (fun _ _ _ h => h) (Or.inl ⟨by kernel_rfl, ?_⟩) hHeld ?_
      rotate_left
      · (intro w hSw; (try dsimp only at hSw); have e0 := cell_of_block hSw 0; have e1 := cell_of_block hSw 1; have e2 := cell_of_block hSw 2; have e3 := cell_of_block hSw 3; have e4 := cell_of_block hSw 4; go_simp); try with_reducible rfl
      try simp only [Act.put, List.setIfInBounds_toArray, List.set_cons_zero, List.set_cons_succ]
      refine wpAnyH_done (by kernel_rfl) ?_ _
      clear hHeld
      go_wp2_with fail
      go_meet
      exact ⟨ab, rfl, rfl, A4.out, X4.out, BB4.out⟩
  case rest =>
  obtain ⟨ab, rfl, rfl, ha, hs, hb⟩ := hcut
  have A3 := hide ha
  have X3 := hide hs
  have B3 := hide hb
  clear ha hs hb X0 T0 BB0
  have a0 := cell_of_block A3.out 0
  go_wp2_with fail
  refine (HRD.out _ _ _ _ _ _ _ X3.out.drive).mono ?_
  rintro e w5 ⟨rfl, hb⟩
  have A5 := hide ((hb.block _ (heap_lt A3.out)).trans A3.out)
  have X5 := hide (X3.out.below hb)
  have B5 := hide (B3.out.trans (hb.mono X3.out.size))
  clear hb A3 X3 B3 a0
  go_upto_region 5 with (refine rw_store rfl 80 (.tmp 9) (.tmp 31) rfl w5.heap.size rfl #[.int .i64 4, .int .u8 2, .int .i64 0, .int .u64 1, .int .i64 0, .int .i64 1, .string zs] rfl _ (heap_new w5 _) (by kernel_rfl) rfl (by simp [Value.oneCell']) ?_)
  have XB := hide (heap_new w5 (.cells #[.int .i64 0, .int .u8 0, .int .i64 0, .int .u64 0, .int .i64 0, .int .i64 0, .string ⟨#[]⟩] 80))
  have hal := (Below.refl w5.heap.size w5).alloc (Nat.le_refl _) (.cells #[.int .i64 0, .int .u8 0, .int .i64 0, .int .u64 0, .int .i64 0, .int .i64 0, .string ⟨#[]⟩] 80)
  have hbb := setRow_below (hal.trans (Below.refl _ _)) (Nat.le_refl _) hal.size (#[.int .i64 4, .int .u8 2, .int .i64 0, .int .u64 1, .int .i64 0, .int .i64 1, .string zs] : Array Value)
  have P6 := hide (setRow_same (cs := (#[.int .i64 4, .int .u8 2, .int .i64 0, .int .u64 1, .int .i64 0, .int .i64 1, .string zs] : Array Value)) XB.out)
  have A6 := hide ((hbb.block _ (heap_lt A5.out)).trans A5.out)
  have X6 := hide (X5.out.below hbb)
  have B6 := hide (B5.out.trans (hbb.mono X5.out.size))
  clear hal hbb XB A5 X5 B5
  generalize (w5.alloc (.cells #[.int .i64 0, .int .u8 0, .int .i64 0, .int .u64 0, .int .i64 0, .int .i64 0, .string ⟨#[]⟩] 80)).setRow w5.heap.size (#[.int .i64 4, .int .u8 2, .int .i64 0, .int .u64 1, .int .i64 0, .int .i64 1, .string zs] : Array Value) = w6 at *
  generalize w5.heap.size = pb at *
  have a0 := cell_of_block A6.out 0
  have a1 := cell_of_block A6.out 1
  have p0 := cell_of_block P6.out 0
  have p1 := cell_of_block P6.out 1
  have p2 := cell_of_block P6.out 2
  have p3 := cell_of_block P6.out 3
  have p4 := cell_of_block P6.out 4
  have p5 := cell_of_block P6.out 5
  have q1 := eql_place
  have q2 := guard_place
  have q3 := eql_tagB
  have q4 := guard_tagB
  go_wp2_with fail
  refine (open_any _ X6.out).mono ?_
  rintro e w7 ⟨rfl, rfl⟩
  go_wp2_with fail
  refine (room_any _ X6.out).mono ?_
  rintro e w7 ⟨rfl, rfl⟩
  go_wp2_with fail
  refine (wear_any pp pq L2 0 _ X6.out.pool).mono ?_
  rintro e w7 ⟨rfl, rfl⟩
  rw [HWR.out]
  go_wp2_with fail
  refine (HSI.out _ _ _ _ _ X6.out.drive.chip).mono ?_
  rintro e w7 ⟨rfl, rfl⟩
  go_wp2_with fail
  go_ret
  exact ⟨rfl, by rw [HQ0.out]; exact B6.out⟩
end Go.Proofs.YtjcekpiaklmnaaaGreat

namespace Go.Proofs.YtjcekpiaklmnaaaGreat
set_option linter.unusedSimpArgs false
set_option linter.unusedVariables false
open Go.RowKit Go.WideShapes Go.ChangeShapes Go.ChangeAt Go.Deep
def stL (t : Nat) : List (Int × Int) := List.replicate t (2, 1) ++ List.replicate (6 - t) (1, 0)
theorem stL_len (t : Nat) (ht : t ≤ 6) : (stL t).length = 6 := by unfold stL; simp; omega
theorem stL_take : ∀ t : Nat, t < 6 → takeZ false (stL t) = ((t : Int), 0) ∧ t < (takeL false (stL t)).length ∧ sndZ (takeL false (stL t)) (t : Int) + 1 = 1 ∧ (takeL false (stL t)).set t (((takeL false (stL t)).getD t (0, 0)).1, 1) = stL (t + 1) := by decide +kernel
theorem stL_full : takeZ false (stL 6) = (0, 13) ∧ takeL false (stL 6) = stL 6 := by decide +kernel
theorem stL_snd : ∀ t : Nat, t ≤ 6 → ∀ k : Nat, k < 6 → sndZ (stL t) (k : Int) = if k < t then 1 else 0 := by
  intro t ht
  have h : ∀ t : Nat, t < 7 → ∀ k : Nat, k < 6 → sndZ (stL t) (k : Int) = if k < t then 1 else 0 := by decide +kernel
  exact h t (by omega)
structure FilAt (S : ChipM) (K : List KnM) (t lf i : Nat) : Prop where
  heal : Heal S (3 * (i : Int))
  dims : S.L.length = 6 ∧ S.pgs = 4 ∧ S.size = 32
  klen : K.length = 6
  bad : ∀ k, k < 6 → (K.getD k kn0).bad = false
  er : ∀ k, k < 6 → (S.blk k).erased = if k < t then 1 else 0
  top : 1 ≤ lf → ∀ k j : Nat, t = k + 1 → j + lf = 4 → (S.blk k).next = (j : Int) ∧ K.getD k kn0 = ⟨false, (j : Int)⟩
  cnt : i + lf = 3 * t
  lf2 : lf ≤ 2
  t6 : t ≤ 6
theorem kn_self (K : List KnM) (k : Nat) (hk : k < K.length) (x : KnM) : (K.set k x).getD k kn0 = x := by simp [List.getD, hk]
theorem kn_other (K : List KnM) (k m : Nat) (hm : m ≠ k) (x : KnM) : (K.set k x).getD m kn0 = K.getD m kn0 := by simp [List.getD, List.getElem?_set, Ne.symm hm]
theorem fil_zero : FilAt bS0 bK0 0 0 0 := by
  refine ⟨bS0_heal, ⟨rfl, rfl, rfl⟩, rfl, by decide +kernel, ?_, fun h => absurd h (by decide), rfl, by decide, by decide⟩
  intro k hk
  rw [show bS0.blk k = (newS 6 4 32).blk k from rfl, newS_blk 6 4 32 k hk]
  rfl
theorem fil_left {S : ChipM} {K : List KnM} {t lf i : Nat} (h : FilAt S K t lf i) (k j : Nat) (hk : t = k + 1) (hj : j + lf = 4) (td fr : ByteArray) (lf' : Nat) (hl : lf = lf' + 1) : FilAt (progS S k j td fr) (K.set k ⟨false, (j : Int) + 1⟩) t lf' (i + 1) := by
  have h6 := h.t6
  have hk' : k < S.L.length := by rw [h.dims.1]; omega
  have hkK : k < K.length := by rw [h.klen]; omega
  have hd := prog_dims h.heal k hk' j td fr
  have hb := prog_blk h.heal k hk' j td fr
  refine ⟨(prog_heal h.heal k hk' j td fr).mono (by omega), ⟨hd.1.trans h.dims.1, hd.2.1.trans h.dims.2.1, hd.2.2.trans h.dims.2.2⟩, by rw [List.length_set]; exact h.klen, ?_, ?_, ?_, by have := h.cnt; omega, by have := h.lf2; omega, h6⟩
  · intro m hm
    by_cases e : m = k
    · subst e; rw [kn_self K m hkK]
    · rw [kn_other K k m e]; exact h.bad m hm
  · intro m hm
    rw [hb]
    split
    · next e => subst e; exact h.er m hm
    · exact h.er m hm
  · intro _ k2 j2 e1 e2
    obtain rfl : k2 = k := by omega
    obtain rfl : j2 = j + 1 := by omega
    rw [hb, if_pos rfl, kn_self K k2 hkK]
    exact ⟨by show (j : Int) + 1 = _; omega, by rw [show ((j + 1 : Nat) : Int) = (j : Int) + 1 by omega]⟩
theorem fil_open {S : ChipM} {K : List KnM} {t i : Nat} (h : FilAt S K t 0 i) (ht : t < 6) (td fr : ByteArray) : FilAt (progS (openS S t 1) t 1 td fr) ((openK K t).set t ⟨false, ((1 : Nat) : Int) + 1⟩) (t + 1) 2 (i + 1) := by
  have hk : t < S.L.length := by rw [h.dims.1]; omega
  have hkK : t < K.length := by rw [h.klen]; omega
  have h1 := open_heal h.heal t hk 1
  have hd1 := open_dims h.heal t hk 1
  have hn1 := open_next h.heal t hk 1
  have hb1 := open_blk h.heal t hk 1
  have hk' : t < (openS S t 1).L.length := by rw [hd1.1]; exact hk
  have hd := prog_dims h1 t hk' 1 td fr
  have hb := prog_blk h1 t hk' 1 td fr
  have hkO : t < (openK K t).length := by rw [openK_len]; exact hkK
  refine ⟨(prog_heal h1 t hk' 1 td fr).mono (by omega), ⟨(hd.1.trans hd1.1).trans h.dims.1, (hd.2.1.trans hd1.2.1).trans h.dims.2.1, (hd.2.2.trans hd1.2.2).trans h.dims.2.2⟩, by rw [List.length_set, openK_len]; exact h.klen, ?_, ?_, ?_, by have := h.cnt; omega, by decide, by omega⟩
  · intro m hm
    by_cases e : m = t
    · subst e; rw [kn_self _ m hkO]
    · rw [kn_other _ t m e, openK_other K t m e]; exact h.bad m hm
  · intro m hm
    rw [hb]
    split
    · next e =>
      subst e
      show ((openS S m 1).blk m).erased = _
      rw [hn1.2, h.er m hm, if_neg (by omega), if_pos (by omega)]
      rfl
    · next e =>
      rw [hb1, if_neg e, h.er m hm]
      by_cases e2 : m < t
      · rw [if_pos e2, if_pos (by omega)]
      · rw [if_neg e2, if_neg (by omega)]
  · intro _ k2 j2 e1 e2
    obtain rfl : k2 = t := by omega
    obtain rfl : j2 = 2 := by omega
    rw [hb, if_pos rfl, kn_self _ k2 hkO]
    exact ⟨rfl, rfl⟩
def Put14 (B0 sb d b p q B : Nat) (G : Nat → Nat) (t lf i pp pq : Nat) (w : World) (e : Ending) (w' : World) : Prop :=
  (e = .returned (.tuple #[.agg #[.int .i64 0, .int .i64 0], .int .i64 13]) ∧ i = 18 ∧ TurnB B0 w w') ∨
  ∃ (S' : ChipM) (K' : List KnM) (t' lf' : Nat) (bx bz : Int), e = .returned (.tuple #[.agg #[.int .i64 bx, .int .i64 bz], .int .i64 0]) ∧ FilAt S' K' t' lf' (i + 1) ∧ StAt w' B0 sb d b p q B G S' K' pp pq (stL t') bx (lf' : Int) ∧ TurnB B0 w w' ∧ bx = (t' : Int) - 1 ∧ bz = 3 - (lf' : Int) ∧ ((t' = t ∧ lf = lf' + 1) ∨ (t' = t + 1 ∧ lf = 0 ∧ lf' = 2))
set_option maxRecDepth 100000 in
set_option maxHeartbeats 2000000 in
theorem put14 {B0 sb d b p q B pp pq : Nat} {G : Nat → Nat} {S : ChipM} {K : List KnM} {t lf i : Nat} {op : Int} (h : FilAt S K t lf i) (hop : 1 ≤ lf → op = (t : Int) - 1) (hi : i ≤ 59) (td : List UInt8) (ht : td.length = 32) (w : World) (hW : StAt w B0 sb d b p q B G S K pp pq (stL t) op (lf : Int)) :
    Calls Tryz.prog 9 #[.pointer (some ⟨sb, 0, none⟩), .agg #[.int .u8 1, .int .i64 (i : Int), .int .u64 1, .int .i64 0, .int .i64 1], .string (bs td)] w (Put14 B0 sb d b p q B G t lf i pp pq w) := by
  have hT : TagOk 1 (i : Int) 0 1 := by unfold TagOk; omega
  have hlf := h.lf2
  have h6 := h.t6
  have hcn := h.cnt
  rcases Nat.eq_zero_or_pos lf with rfl | hp
  · rcases Nat.lt_or_ge t 6 with h5 | h5
    · obtain ⟨s1, s2, s3, s4⟩ := stL_take t h5
      have hk : t < S.L.length := by rw [h.dims.1]; omega
      have hh1 := open_heal h.heal t hk 1
      have hd1 := open_dims h.heal t hk 1
      have hn1 := open_next h.heal t hk 1
      refine (put_go (S := S) (S1 := openS S t 1) (K := K) (K1 := openK K t) (L := stL t) (L1 := stL (t + 1)) (op := op) (lf := ((0 : Nat) : Int)) (lf1 := 3) (N := 3 * (i : Int) + 2) t 1
        (.inr ⟨rfl, fun W hW => (begin_ok (L1 := takeL false (stL t)) t s1 rfl (by rw [stL_len t (by omega)]; decide) h.heal (by omega) hk s2 (h.bad t h5) 1 s3 (by decide) (by decide) W hW).mono (fun e w' hh => ⟨hh.1, by rw [← s4]; have := hh.2.1; rw [h.dims.2.1] at this; exact this, hh.2.2⟩)⟩)
        hh1 (by omega) hd1 (by rw [openK_len, hd1.1, h.klen, h.dims.1]) (by rw [hd1.1]; exact hk) (by rw [hd1.2.1, h.dims.2.1]; decide) hn1.1 (openK_at K t (by rw [h.klen]; exact h5)) (by decide) 1 (i : Int) 1 0 1 hT (by decide) (by decide) td (by rw [hd1.2.2, h.dims.2.2]; exact ht) w hW).mono ?_
      rintro e w' ⟨rfl, hs, hb⟩
      exact .inr ⟨_, _, t + 1, 2, (t : Int), ((1 : Nat) : Int), rfl, fil_open h h5 _ _, hs, hb, by omega, rfl, .inr ⟨rfl, rfl, rfl⟩⟩
    · obtain rfl : t = 6 := by omega
      refine (put_full (fun W hW => begin_full stL_full.1 stL_full.2 (by rw [stL_len 6 (by decide)]; decide) W hW) rfl 1 (i : Int) 1 0 1 hT (bs td) (by rw [bs_size, ht, h.dims.2.2]) w hW).mono ?_
      rintro e w' ⟨rfl, hs, hb⟩
      exact .inl ⟨rfl, by omega, hb⟩
  · obtain ⟨k, rfl⟩ : ∃ k, t = k + 1 := ⟨t - 1, by omega⟩
    obtain ⟨j, hj⟩ : ∃ j, j + lf = 4 := ⟨4 - lf, by omega⟩
    obtain ⟨l2, rfl⟩ : ∃ l2, lf = l2 + 1 := ⟨lf - 1, by omega⟩
    obtain ⟨t1, t2⟩ := h.top hp k j rfl hj
    have ho := hop hp
    refine (put_go (S := S) (S1 := S) (K := K) (K1 := K) (L := stL (k + 1)) (L1 := stL (k + 1)) (op := op) (lf := ((l2 + 1 : Nat) : Int)) (lf1 := ((l2 + 1 : Nat) : Int)) (N := 3 * (i : Int)) k j
      (.inl ⟨by omega, rfl, rfl, rfl, by omega, rfl⟩)
      h.heal (by omega) ⟨rfl, rfl, rfl⟩ (by rw [h.klen, h.dims.1]) (by rw [h.dims.1]; omega) (by rw [h.dims.2.1]; omega) t1 t2 (by omega) 1 (i : Int) 1 0 1 hT (by decide) (by decide) td (by rw [h.dims.2.2]; exact ht) w hW).mono ?_
    rintro e w' ⟨rfl, hs, hb⟩
    rw [show ((l2 + 1 : Nat) : Int) - 1 = (l2 : Int) by omega] at hs
    exact .inr ⟨_, _, k + 1, l2, (k : Int), (j : Int), rfl, fil_left h k j rfl hj _ _ l2 rfl, hs, hb, by omega, by omega, .inl ⟨rfl, rfl⟩⟩
theorem fil_wear {S : ChipM} {K : List KnM} {t lf i : Nat} (h : FilAt S K t lf i) (k : Nat) (hk : k < 6) : erasesZ S (k : Int) = sndZ (stL t) (k : Int) := by
  rw [stL_snd t h.t6 k hk, ← h.er k hk]
  unfold erasesZ
  rw [if_pos (by rw [h.dims.1]; omega), Int.toNat_natCast]
end Go.Proofs.YtjcekpiaklmnaaaGreat
