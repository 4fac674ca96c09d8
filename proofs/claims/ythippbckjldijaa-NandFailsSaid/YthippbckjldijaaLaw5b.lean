/-
  Layer 5's laws, walked and closed: NandFails.
-/
import Derived.Test.YthippbckjldijaaNand19
import Derived.Laws.IdiomStrings
namespace Go.Proofs.Ythippbckjldijaa
set_option linter.unusedSimpArgs false
set_option linter.unusedVariables false
open Go.RowKit Go.WideShapes Go.ChangeShapes Go.ChangeAt Go.Deep

theorem two_bytes (w : World) (b : Nat) (c : UInt8) (j : Nat) (hj : j ≤ 4) (h : w.heap[b]? = some (.cells #[.int .u8 (c.toNat : Int), .int .u8 (j : Int)] 5 (0, 0))) :
    (convert 66 9 (.slice (some ⟨b, 0, none⟩) 2 2)).run Try.prog w = .ok (.string ⟨#[c, UInt8.ofNat j]⟩) w := by
  have h1 := run_convert_bytes_back (P := Try.prog) w 66 9 5 ⟨b, 0, none⟩ 2 [c, UInt8.ofNat j] Try.underlying66 Try.underlying5 Try.underlying9 (fun i hi => by
    have hi2 : i = 0 ∨ i = 1 := by have : i < 2 := hi; omega
    rcases hi2 with rfl | rfl
    · exact cell_of_block h 0
    · refine (cell_of_block h 1).trans ?_
      have hj2 : j = 0 ∨ j = 1 ∨ j = 2 ∨ j = 3 ∨ j = 4 := by omega
      rcases hj2 with rfl | rfl | rfl | rfl | rfl <;> rfl)
  exact h1
theorem FailI.callSin {S : ChipM} {c : UInt8} {k nx s er : Nat} {wk : Bool} (h : FailI S c k nx wk true s er) (h1 : nx ≤ 100) (h2 : s ≤ 100) (h3 : er ≤ 100) (p q B : Nat) (G : Nat → Nat) (w : World) (hn : NandAt w p q B G S) :
    Calls Try.prog 16 #[.pointer (some ⟨p, 0, none⟩), .int .i64 1] w (NandIs p q B G (eraseT S 1).1 (.int .i64 12) w) := by
  have e0 : sinE (S.blk 1) false = 12 := by unfold sinE; rw [h.failed, if_pos (.inl rfl)]
  have h4 := erase_sin p q B G S (h.ok h1 h2 h3) 1 w hn (h.ask 0 (by decide)) (by rw [e0]; decide)
  rw [e0] at h4
  have e1 : (eraseT S 1).1 = sinS S 1 false := by
    unfold eraseT
    rw [if_neg (fun hn => hn (h.ask 0 (by decide))), show Int.toNat 1 = 1 from rfl, if_pos (by rw [e0]; decide)]
  rw [e1]
  exact h4
theorem FailI.callErase {S : ChipM} {c : UInt8} {k nx s er : Nat} (h : FailI S c k nx true false s er) (h1 : nx ≤ 100) (h2 : s ≤ 100) (h3 : er ≤ 100) (p q B : Nat) (G : Nat → Nat) (w : World) (hn : NandAt w p q B G S) :
    Calls Try.prog 16 #[.pointer (some ⟨p, 0, none⟩), .int .i64 1] w (NandIs p q B G (eraseT S 1).1 (.int .i64 10) w) := by
  have e0 : sinE (S.blk 1) false = 0 := by unfold sinE; rw [h.failed, h.mill]; rfl
  have h4 := erase_go p q B G S (h.ok h1 h2 h3) 1 w hn (h.ask 0 (by decide)) e0 (by rw [h.fuse]; decide) (by rw [h.erased]; decide)
  rw [show erasedE S 1 = 10 by unfold erasedE; rw [if_pos h.weak]] at h4
  have e1 : (eraseT S 1).1 = erasedS S 1 := by
    unfold eraseT
    rw [if_neg (fun hn => hn (h.ask 0 (by decide))), show Int.toNat 1 = 1 from rfl, if_neg (fun hn => hn e0), if_neg (by rw [h.fuse]; decide)]
  rw [e1]
  exact h4
/-- the closure's answer -/
theorem FailI.callAsk {S : ChipM} {c : UInt8} {k : Nat} (h : FailI S c k k true false 0 0) (hk : k < 5) (er : Bool) (p q B : Nat) (G : Nat → Nat) (eb cb : Nat) (w : World) (hx : w.heap[eb]? = some (.cells #[.bool er] 4 (0, 0))) (hc : w.heap[cb]? = some (.cells #[.pointer (some ⟨p, 0, none⟩)] 28 (0, 0))) (hn : NandAt w p q B G S) :
    Calls Try.prog 32 #[.pointer (some ⟨eb, 0, none⟩), .pointer (some ⟨cb, 0, none⟩)] w fun e w' => ∃ S' nx er', nx ≤ 5 ∧ er' ≤ 1 ∧ FailI S' c k nx true true 0 er' ∧ NandIs p q B G S' (.int .i64 10) w e w' := by
  cases er with
  | true =>
    have e0 : sinE (S.blk 1) false = 0 := by unfold sinE; rw [h.failed, h.mill]; rfl
    have e1 : eraseT S 1 = (erasedS S 1, 10) := by
      unfold eraseT
      rw [if_neg (fun hn => hn (h.ask 0 (by decide))), show Int.toNat 1 = 1 from rfl, if_neg (fun hn => hn e0), if_neg (by rw [h.fuse]; decide)]
      unfold erasedE
      rw [if_pos h.weak]
    refine (fail_erase p q B G S (h.ok (by omega) (by decide) (by decide)) (by rw [h.erased]; decide) e1 (h.ask 0 (by decide)) e0 (by rw [h.fuse]; decide) h.weak eb cb w hx hc hn).mono fun e w' he => ?_
    have h5 := h.erase
    rw [h5.1] at he
    exact ⟨_, k, 1, by omega, by decide, h5.2, he⟩
  | false =>
    refine (fail_prog p q B G S (h.ok (by omega) (by decide) (by decide)) eb cb w hx hc hn).mono fun e w' he => ?_
    have h5 := h.fails hk
    rw [h.nextZ, h5.1] at he
    exact ⟨_, k + 1, 0, by omega, by decide, h5.2, he⟩
set_option maxRecDepth 100000 in
set_option maxHeartbeats 2000000 in
theorem nandFails_walk (n : Int) (n0 : 0 ≤ n) (n1 : n ≤ 255) (er : Bool) (tm : Int) (t0 : 0 ≤ tm) (t1 : tm ≤ 255) (w : World) :
    Calls Try.prog 6 #[.int .u8 n, .bool er, .int .u8 tm] w fun e w' => e = .returned (.bool true) ∧ Below w.heap.size w w' := by
  obtain ⟨c, rfl⟩ : ∃ c : UInt8, (c.toNat : Int) = n := ⟨UInt8.ofNat n.toNat, by
    rw [UInt8.toNat_ofNat_of_lt' (show n.toNat < 256 by omega)]; omega⟩
  obtain ⟨tn, rfl⟩ : ∃ tn : Nat, (tn : Int) = tm := ⟨tm.toNat, by omega⟩
  have HFD := hide (fun (j : Nat) (hj : j ≤ 4) W => full_any ⟨#[c, UInt8.ofNat j]⟩ (by show 2 ≤ _; decide) 32 (by decide) W)
  have HFE := hide (fun W => full_any ⟨#[]⟩ (by decide) 32 (by decide) W)
  rw [show fullB ⟨#[]⟩ 32 = feB from rfl] at HFE
  have HNEW := hide (fun W => new_go 4 5 32 (by decide) [] (.slice none 0 0) W (.inl ⟨rfl, rfl⟩) (by decide))
  rw [show badS (newS 4 5 32) [] = newS 4 5 32 from rfl] at HNEW
  have HF0 := hide (fail_first c)
  go_enter Try.func6, Try.ntmps6
  go_wp2_with fail
  obtain ⟨oa, hoa⟩ : ∃ oa, oa = Obj.cells #[.bool er] 4 := ⟨_, rfl⟩
  rw [← hoa]
  have hal := (Below.refl w.heap.size w).alloc (Nat.le_refl _) oa
  have BL := hide hal
  have XE := hide (heap_new w oa)
  clear hal
  generalize w.alloc oa = w0 at *
  generalize heb : w.heap.size = eb at XE ⊢
  rw [hoa] at XE
  clear hoa
  refine (HNEW.out _).mono ?_
  rintro e w1 ⟨P, Q, G, rfl, hn, hb⟩
  have N1 := hide hn
  have XE1 := hide ((hb.block _ (heap_lt XE.out)).trans XE.out)
  have T1 := hide (Turn.of_below hb (Nat.le_refl _))
  clear hn hb HNEW
  generalize newS 4 5 32 = S0 at *
  go_wp2_with fail
  obtain ⟨oc, hoc⟩ : ∃ oc, oc = Obj.cells #[.pointer (some ⟨P, 0, none⟩)] 28 := ⟨_, rfl⟩
  rw [← hoc]
  have hal := (Below.refl w1.heap.size w1).alloc (Nat.le_refl _) oc
  have XC2 := hide (heap_new w1 oc)
  have XE2 := hide ((hal.block _ (heap_lt XE1.out)).trans XE1.out)
  have N2 := hide (N1.out.below hal)
  have T2 := hide (T1.out.trans (Turn.of_below hal N1.out.size))
  clear hal N1 T1 XE1
  generalize w1.alloc oc = w2 at *
  generalize w1.heap.size = cb at *
  rw [hoc] at XC2
  clear hoc
  refine (wakes_any _).mono ?_
  rintro e w3 ⟨rfl, hb⟩
  have XC3 := hide ((hb.block _ (heap_lt XC2.out)).trans XC2.out)
  have XE3 := hide ((hb.block _ (heap_lt XE2.out)).trans XE2.out)
  have N3 := hide (N2.out.below hb)
  have T3 := hide (T2.out.trans (Turn.of_below hb N2.out.size))
  clear hb N2 T2 XC2 XE2
  have x3 := cell_of_block XC3.out 0
  go_wp2_with fail
  clear x3
  obtain ⟨k, hk5, hk⟩ : ∃ k : Nat, k < 5 ∧ (c.toNat : Int) % 5 = (k : Int) := ⟨c.toNat % 5, Nat.mod_lt _ (by decide), by omega⟩
  rw [hk]
  clear hk
  go_loopw [36] (fun z W => ∃ (j : Nat) (S : ChipM), j ≤ k ∧ z = .int .i64 j ∧ NandAt W P Q w0.heap.size G S ∧ FailI S c j j false false 0 0 ∧ W.heap[eb]? = some (.cells #[.bool er] 4 (0, 0)) ∧ W.heap[cb]? = some (.cells #[.pointer (some ⟨P, 0, none⟩)] 28 (0, 0)) ∧ Turn w0.heap.size w0 W) (fun z _ => k - (intOf z).toNat)
  case atStart => exact ⟨0, _, by omega, rfl, N3.out, HF0.out, XE3.out, XC3.out, T3.out⟩
  case round =>
    obtain ⟨j, S, hj, rfl, hn, hf, hxe, hxc, ht⟩ := hrel
    have N0 := hide hn.drew
    have XE0 := hide (show wr.drew.heap[eb]? = _ from hxe)
    have XC0 := hide (show wr.drew.heap[cb]? = _ from hxc)
    have T0 := hide ht.drew
    have NR := hide hn
    have TR := hide ht
    have HFJ := hide hf
    clear hn hxe hxc ht hf N3 T3 XE3 XC3 HF0
    by_cases hlt : j < k
    · have hj4 : j ≤ 4 := by omega
      have hw8 : IntKind.u8.wrap (j : Int) = (j : Int) := by rw [IntKind.wrap_u8]; omega
      have HFI := hide (HFJ.out.prog (by omega))
      have HPG := hide (fun W hW => program_any P Q w0.heap.size G S (HFJ.out.ok (by omega) (by decide) (by decide)) 1 (j : Int) (fdB c j) feB W hW)
      rw [HFI.out.1] at HPG
      rw [show fdB c j = fullB ⟨#[c, UInt8.ofNat j]⟩ 32 from rfl] at HPG HFI
      generalize progT S 1 (j : Int) (fullB ⟨#[c, UInt8.ofNat j]⟩ 32) feB = RR at *
      go_upto_region 8 with (fail)
      refine wp_region_held_drew (S := (fun W => W.cell? ⟨cb, 0, none⟩ = some (.pointer (some ⟨P, 0, none⟩)))) (by kernel_rfl) (cell_of_block XC0.out 0) (fun hHeld => ?_)
      generalize wr.drew = u0 at *
      refine wpAnyH_take (i := 0) (oi := { dst := some 39, op := Op.load 28 (Operand.tmp 7), type := 28, pos := "law.go:174", after := #[], guard := none }) (v := ?_) rfl (by kernel_rfl) (by kernel_rfl) (by kernel_rfl) (fun _ _ _ h => h) (Or.inl ⟨by kernel_rfl, ?_⟩) hHeld ?_
      rotate_left
      · (intro w hSw; (try dsimp only at hSw); go_simp); try with_reducible rfl
      try simp only [Act.put, List.setIfInBounds_toArray, List.set_cons_zero, List.set_cons_succ]
      refine wpAnyH_take (i := 1) (oi := { dst := some 40, op := Op.move (Operand.tmp 10), type := 3, pos := "law.go:174", after := #[], guard := none }) (v := ?_) rfl (by kernel_rfl) (by kernel_rfl) (by kernel_rfl) (fun _ _ _ h => h) (Or.inl ⟨by kernel_rfl, ?_⟩) hHeld ?_
      rotate_left
      · (intro w hSw; (try dsimp only at hSw); go_simp); try with_reducible rfl
      try simp only [Act.put, List.setIfInBounds_toArray, List.set_cons_zero, List.set_cons_succ]
      refine wpAnyH_take (i := 2) (oi := { dst := some 41, op := Op.move (Operand.tmp 0), type := 5, pos := "law.go:174", after := #[], guard := none }) (v := ?_) rfl (by kernel_rfl) (by kernel_rfl) (by kernel_rfl) (fun _ _ _ h => h) (Or.inl ⟨by kernel_rfl, ?_⟩) hHeld ?_
      rotate_left
      · (intro w hSw; (try dsimp only at hSw); go_simp); try with_reducible rfl
      try simp only [Act.put, List.setIfInBounds_toArray, List.set_cons_zero, List.set_cons_succ]
      refine wpAnyH_take (i := 3) (oi := { dst := some 42, op := Op.move (Operand.tmp 10), type := 3, pos := "law.go:174", after := #[], guard := none }) (v := ?_) rfl (by kernel_rfl) (by kernel_rfl) (by kernel_rfl) (fun _ _ _ h => h) (Or.inl ⟨by kernel_rfl, ?_⟩) hHeld ?_
      rotate_left
      · (intro w hSw; (try dsimp only at hSw); go_simp); try with_reducible rfl
      try simp only [Act.put, List.setIfInBounds_toArray, List.set_cons_zero, List.set_cons_succ]
      refine wpAnyH_take (i := 4) (oi := { dst := some 43, op := Op.convert 3 5 (Operand.tmp 42), type := 5, pos := "law.go:174", after := #[{ on := 3, ground := Ground.data }], guard := none }) (v := ?_) rfl (by kernel_rfl) (by kernel_rfl) (by kernel_rfl) (fun _ _ _ h => h) (Or.inl ⟨by kernel_rfl, ?_⟩) hHeld ?_
      rotate_left
      · (intro w hSw; (try dsimp only at hSw); go_simp); try with_reducible rfl
      try simp only [Act.put, List.setIfInBounds_toArray, List.set_cons_zero, List.set_cons_succ]
      refine wpAnyH_ready (rs := [5]) (by kernel_rfl) (by simp) (AllReadyH.cons (o := { dst := some 44, op := Op.buildSlice 66 2 #[(0, Operand.tmp 41), (1, Operand.tmp 43)], type := 66, pos := "law.go:174", after := #[{ on := 2, ground := Ground.data }, { on := 4, ground := Ground.data }], guard := none }) rfl (fun K hK => ?_) AllReadyH.nil)
      have hOld := hide hHeld
      clear hHeld
      go_simp
      obtain ⟨ob, hob⟩ : ∃ ob, ob = Obj.cells #[.int .u8 (c.toNat : Int), .int .u8 (j : Int)] 5 := ⟨_, rfl⟩
      try rw [hw8]
      try rw [← hob]
      have hal := (Below.refl u0.heap.size u0).alloc (Nat.le_refl _) ob
      have XC1 := hide ((hal.block _ (heap_lt XC0.out)).trans XC0.out)
      have XE1 := hide ((hal.block _ (heap_lt XE0.out)).trans XE0.out)
      have N1 := hide (N0.out.below hal)
      have T1 := hide (T0.out.trans (Turn.of_below hal N0.out.size))
      have hnb := heap_new u0 ob
      clear hal
      generalize u0.alloc ob = u1 at *
      generalize u0.heap.size = nb at *
      rw [hob] at hnb
      have hcv := two_bytes u1 nb c j hj4 hnb
      clear hob hnb
      (try go_wp2_with fail)
      refine hK.out _ _ (cell_of_block XC1.out 0) (fun hHeld => ?_)
      clear hK K hOld
      try simp only [Act.put, List.setIfInBounds_toArray, List.set_cons_zero, List.set_cons_succ]
      refine wpAnyH_ready (rs := [6]) (by kernel_rfl) (by simp) (AllReadyH.cons (o := { dst := some 45, op := Op.convert 66 9 (Operand.tmp 44), type := 9, pos := "law.go:174", after := #[{ on := 5, ground := Ground.data }], guard := none }) rfl (fun K hK => ?_) AllReadyH.nil)
      have hOld := hide hHeld
      clear hHeld
      go_simp
      try simp only [hcv, Result.andThen]
      clear hcv
      (try go_wp2_with fail)
      refine hK.out _ _ (cell_of_block XC1.out 0) (fun hHeld => ?_)
      clear hK K hOld
      try simp only [Act.put, List.setIfInBounds_toArray, List.set_cons_zero, List.set_cons_succ]
      refine wpAnyH_ready (rs := [7]) (by kernel_rfl) (by simp) (AllReadyH.cons (o := { dst := some 46, op := Op.call { callee := Callee.value (Operand.func 13), args := #[Operand.tmp 45, Operand.const (Value.int IntKind.i64 32)], argTypes := #[9, 3] }, type := 9, pos := "law.go:174", after := #[{ on := 6, ground := Ground.data }], guard := none }) rfl (fun K hK => ?_) AllReadyH.nil)
      have hOld := hide hHeld
      clear hHeld
      go_simp
      refine (HFD.out j (by omega) _).mono ?_
      rintro e u2 ⟨rfl, hb⟩
      have XC2 := hide ((hb.block _ (heap_lt XC1.out)).trans XC1.out)
      have XE2 := hide ((hb.block _ (heap_lt XE1.out)).trans XE1.out)
      have N2 := hide (N1.out.below hb)
      have T2 := hide (T1.out.trans (Turn.of_below hb N1.out.size))
      clear hb
      (try go_wp2_with fail)
      refine hK.out _ _ (cell_of_block XC2.out 0) (fun hHeld => ?_)
      clear hK K hOld
      try simp only [Act.put, List.setIfInBounds_toArray, List.set_cons_zero, List.set_cons_succ]
      refine wpAnyH_ready (rs := [8]) (by kernel_rfl) (by simp) (AllReadyH.cons (o := { dst := some 47, op := Op.call { callee := Callee.value (Operand.func 13), args := #[Operand.const (Value.string { data := #[] }), Operand.const (Value.int IntKind.i64 32)], argTypes := #[9, 3] }, type := 9, pos := "law.go:174", after := #[{ on := 7, ground := Ground.chain }], guard := none }) rfl (fun K hK => ?_) AllReadyH.nil)
      have hOld := hide hHeld
      clear hHeld
      go_simp
      refine (HFE.out _).mono ?_
      rintro e u3 ⟨rfl, hb⟩
      have XC3 := hide ((hb.block _ (heap_lt XC2.out)).trans XC2.out)
      have XE3 := hide ((hb.block _ (heap_lt XE2.out)).trans XE2.out)
      have N3 := hide (N2.out.below hb)
      have T3 := hide (T2.out.trans (Turn.of_below hb N2.out.size))
      clear hb
      (try go_wp2_with fail)
      refine hK.out _ _ (cell_of_block XC3.out 0) (fun hHeld => ?_)
      clear hK K hOld
      try simp only [Act.put, List.setIfInBounds_toArray, List.set_cons_zero, List.set_cons_succ]
      refine wpAnyH_ready (rs := [9]) (by kernel_rfl) (by simp) (AllReadyH.cons (o := { dst := some 48, op := Op.call { callee := Callee.value (Operand.func 14), args := #[Operand.tmp 39, Operand.const (Value.int IntKind.i64 1), Operand.tmp 40, Operand.tmp 46, Operand.tmp 47], argTypes := #[28, 3, 3, 9, 9] }, type := 29, pos := "law.go:174", after := #[{ on := 0, ground := Ground.data }, { on := 1, ground := Ground.data }, { on := 7, ground := Ground.data }, { on := 8, ground := Ground.data }, { on := 8, ground := Ground.chain }], guard := none }) rfl (fun K hK => ?_) AllReadyH.nil)
      have hOld := hide hHeld
      clear hHeld
      go_simp
      refine (HPG.out _ N3.out).mono ?_
      rintro e u4 ⟨rfl, hn, ht⟩
      have XC4 := hide (ht.2.cells XC3.out (by decide))
      have XE4 := hide (ht.2.cells XE3.out (by decide))
      have N4 := hide hn
      have T4 := hide (T3.out.trans ht)
      clear hn ht
      (try go_wp2_with fail)
      refine hK.out _ _ (cell_of_block XC4.out 0) (fun hHeld => ?_)
      clear hK K hOld
      try simp only [Act.put, List.setIfInBounds_toArray, List.set_cons_zero, List.set_cons_succ]
      refine wpAnyH_take (i := 10) (oi := { dst := some 49, op := Op.binOp BinOp.neq 29 (Operand.tmp 48) (Operand.const (Value.int IntKind.i64 0)) 29, type := 4, pos := "law.go:174", after := #[{ on := 9, ground := Ground.data }], guard := none }) (v := ?_) rfl (by kernel_rfl) (by kernel_rfl) (by kernel_rfl) (fun _ _ _ h => h) (Or.inl ⟨by kernel_rfl, ?_⟩) hHeld ?_
      rotate_left
      · (intro w hSw; (try dsimp only at hSw); go_simp); try with_reducible rfl
      try simp only [Act.put, List.setIfInBounds_toArray, List.set_cons_zero, List.set_cons_succ]
      refine wpAnyH_done (by kernel_rfl) ?_ _
      clear hHeld
      go_wp2_with fail
      go_roundw
      case rel => exact ⟨j + 1, _, by omega, by go_num, N4.out, HFI.out.2, XE4.out, XC4.out, T4.out⟩
      case measure => simp [intOf]; omega
    · obtain rfl : j = k := by omega
      clear N0 T0
      have x3 := cell_of_block XC0.out 0
      have x3 : wr.cell? ⟨cb, 0, none⟩ = some (.pointer (some ⟨P, 0, none⟩)) := x3
      go_wp2_with fail
      refine (wreck_any P Q w0.heap.size G S 1 wr NR.out).mono ?_
      rintro e u1 ⟨rfl, hn, ht⟩
      have XC1 := hide (ht.2.cells XC0.out (by decide))
      have XE1 := hide (ht.2.cells XE0.out (by decide))
      have N1 := hide hn
      have T1 := hide (TR.out.trans ht)
      have HF1 := hide HFJ.out.wreck
      clear hn ht XC0 XE0 NR TR HFJ x3
      go_wp2_with fail
      refine (HF1.out.callAsk (by omega) er P Q w0.heap.size G eb cb u1 XE1.out XC1.out N1.out).mono ?_
      rintro e u2 ⟨S2, nx, er2, hnx, her2, hf2, rfl, hn, ht⟩
      have XC2 := hide (ht.2.cells XC1.out (by decide))
      have XE2 := hide (ht.2.cells XE1.out (by decide))
      have N2 := hide hn
      have T2 := hide (T1.out.trans ht)
      clear hn ht
      have HF2 := hide hf2
      clear hf2 HF1 N1 T1 XC1 XE1
      go_wp2_with fail
      clear x3
      obtain ⟨m, hm9, hm⟩ : ∃ m : Nat, m < 9 ∧ (tn : Int) % 9 = (m : Int) := ⟨tn % 9, Nat.mod_lt _ (by decide), by omega⟩
      rw [hm]
      clear hm
      go_loopw [60] (fun z W => ∃ (i : Nat) (S : ChipM), i ≤ m ∧ z = .int .i64 i ∧ NandAt W P Q w0.heap.size G S ∧ FailI S c j nx true true i er2 ∧ W.heap[eb]? = some (.cells #[.bool er] 4 (0, 0)) ∧ W.heap[cb]? = some (.cells #[.pointer (some ⟨P, 0, none⟩)] 28 (0, 0)) ∧ Turn w0.heap.size w0 W) (fun z _ => m - (intOf z).toNat)
      case atStart => exact ⟨0, _, by omega, rfl, N2.out, HF2.out, XE2.out, XC2.out, T2.out⟩
      case round =>
        obtain ⟨i, S5, hi, rfl, hn, hf, hxe, hxc, ht⟩ := hrel
        have N5 := hide hn
        have XE5 := hide hxe
        have XC5 := hide hxc
        have T5 := hide ht
        have HF5 := hide hf
        clear hn hxe hxc ht hf N2 T2 XE2 XC2 HF2
        have x5 : wr.cell? ⟨cb, 0, none⟩ = some (.pointer (some ⟨P, 0, none⟩)) := cell_of_block XC5.out 0
        by_cases hlt : i < m
        · go_wp2_with fail
          refine (HF5.out.callSin (by omega) (by omega) (by omega) P Q w0.heap.size G wr N5.out).mono ?_
          rintro e u6 ⟨rfl, hn, ht⟩
          have XC6 := hide (ht.2.cells XC5.out (by decide))
          have XE6 := hide (ht.2.cells XE5.out (by decide))
          have N6 := hide hn
          have T6 := hide (T5.out.trans ht)
          clear hn ht
          have HF6 := hide HF5.out.sin.2
          generalize (eraseT S5 1).1 = S6 at *
          clear HF5 N5 T5 XC5 XE5 x5
          have x6 : u6.cell? ⟨cb, 0, none⟩ = some (.pointer (some ⟨P, 0, none⟩)) := cell_of_block XC6.out 0
          have hsins := HF6.out.sins
          go_wp2_with fail
          have hS := sins_any P Q w0.heap.size G S6 u6 N6.out
          rw [HF6.out.sins] at hS
          refine hS.mono ?_
          rintro e u7 ⟨rfl, rfl⟩
          clear hS hsins
          go_wp2_with fail
          go_roundw
          case rel => exact ⟨i + 1, _, by omega, by go_num, N6.out, HF6.out, XE6.out, XC6.out, T6.out⟩
          case measure => simp [intOf]; omega
        · obtain rfl : i = m := by omega
          go_wp2_with fail
          refine (on_any P Q w0.heap.size G S5 wr N5.out).mono ?_
          rintro e u6 ⟨rfl, hn, ht⟩
          have XC6 := hide (ht.2.cells XC5.out (by decide))
          have XE6 := hide (ht.2.cells XE5.out (by decide))
          have N6 := hide hn
          have T6 := hide (T5.out.trans ht)
          clear hn ht
          have HF6 := hide HF5.out.on
          generalize onS S5 = S6 at *
          clear HF5 N5 T5 XC5 XE5 x5
          have x6 : u6.cell? ⟨cb, 0, none⟩ = some (.pointer (some ⟨P, 0, none⟩)) := cell_of_block XC6.out 0
          go_wp2_with fail
          refine (HF6.out.callErase (by omega) (by omega) (by omega) P Q w0.heap.size G u6 N6.out).mono ?_
          rintro e u7 ⟨rfl, hn, ht⟩
          have XC7 := hide (ht.2.cells XC6.out (by decide))
          have XE7 := hide (ht.2.cells XE6.out (by decide))
          have N7 := hide hn
          have T7 := hide (T6.out.trans ht)
          clear hn ht
          have HF7 := hide HF6.out.erase.2
          generalize (eraseT S6 1).1 = S7 at *
          clear HF6 N6 T6 XC6 XE6 x6
          have x7 : u7.cell? ⟨cb, 0, none⟩ = some (.pointer (some ⟨P, 0, none⟩)) := cell_of_block XC7.out 0
          go_wp2_with fail
          have hS := erases_any P Q w0.heap.size G S7 1 u7 N7.out
          rw [HF7.out.erasesZ] at hS
          refine hS.mono ?_
          rintro e u8 ⟨rfl, rfl⟩
          clear hS
          go_wp2_with fail
          clear x7
          go_loopw [85] (fun z W => ∃ (l : Nat), l ≤ j ∧ z = .int .i64 l ∧ NandAt W P Q w0.heap.size G S7 ∧ W.heap[eb]? = some (.cells #[.bool er] 4 (0, 0)) ∧ W.heap[cb]? = some (.cells #[.pointer (some ⟨P, 0, none⟩)] 28 (0, 0)) ∧ Turn w0.heap.size w0 W) (fun z _ => j - (intOf z).toNat)
          case atStart => exact ⟨0, by omega, rfl, N7.out, XE7.out, XC7.out, T7.out⟩
          case round =>
            obtain ⟨l, hl, rfl, hn, hxe, hxc, ht⟩ := hrel
            have N8 := hide hn
            have XE8 := hide hxe
            have XC8 := hide hxc
            have T8 := hide ht
            clear hn hxe hxc ht N7 T7 XE7 XC7
            have x8 : wr.cell? ⟨cb, 0, none⟩ = some (.pointer (some ⟨P, 0, none⟩)) := cell_of_block XC8.out 0
            by_cases hlt2 : l < j
            · have HR := read_any P Q w0.heap.size G S7 1 (l : Int) wr N8.out
              rw [HF7.out.read l hlt2 (by omega), HF7.out.ask l (by omega)] at HR
              have HRD := hide HR
              clear HR
              go_wp2_with fail
              refine HRD.out.mono ?_
              rintro e u9 ⟨rfl, hb⟩
              have XC9 := hide ((hb.block _ (heap_lt XC8.out)).trans XC8.out)
              have XE9 := hide ((hb.block _ (heap_lt XE8.out)).trans XE8.out)
              have N9 := hide (N8.out.below hb)
              have T9 := hide (T8.out.trans (Turn.of_below hb N8.out.size))
              clear hb N8 T8 XC8 XE8 x8 HRD
              have hl4 : l ≤ 4 := by omega
              have hw8 : IntKind.u8.wrap (l : Int) = (l : Int) := by rw [IntKind.wrap_u8]; omega
              have hal := (Below.refl u9.heap.size u9).alloc (Nat.le_refl _) (.cells #[.int .u8 (c.toNat : Int), .int .u8 (l : Int)] 5)
              have XC10 := hide ((hal.block _ (heap_lt XC9.out)).trans XC9.out)
              have XE10 := hide ((hal.block _ (heap_lt XE9.out)).trans XE9.out)
              have N10 := hide (N9.out.below hal)
              have T10 := hide (T9.out.trans (Turn.of_below hal N9.out.size))
              have hcv := two_bytes (u9.alloc (.cells #[.int .u8 (c.toNat : Int), .int .u8 (l : Int)] 5)) u9.heap.size c l hl4 (heap_new u9 _)
              clear hal
              rw [show fdB c l = fullB ⟨#[c, UInt8.ofNat l]⟩ 32 from rfl]
              go_wp2_with fail
              refine (HFD.out l hl4 _).mono ?_
              rintro e u11 ⟨rfl, hb⟩
              have XC11 := hide ((hb.block _ (heap_lt XC10.out)).trans XC10.out)
              have XE11 := hide ((hb.block _ (heap_lt XE10.out)).trans XE10.out)
              have N11 := hide (N10.out.below hb)
              have T11 := hide (T10.out.trans (Turn.of_below hb N10.out.size))
              clear hb hcv
              go_wp2_with fail
              go_roundw
              case rel => exact ⟨l + 1, by omega, by go_num, N11.out, XE11.out, XC11.out, T11.out⟩
              case measure => simp [intOf]; omega
            · obtain rfl : l = j := by omega
              go_wp2_with fail
              go_ret
              exact ⟨rfl, BL.out.trans (T8.out.1.mono BL.out.size)⟩

set_option maxRecDepth 100000 in
theorem nandFails_lifted (os : Os) (started : os.Started) (H : Type) (enc : TypeId × Value → H) :
    ReturnsInHanded {} Try.checked os 6 .any (Rows.nandFailsSpec.pre6 enc Try.prog Try.f6 Rows.nandFailsRow.domain false) (Rows.nandFailsSpec.post enc Try.prog Try.f6 false true false false) := by
  refine returnsInHanded_of_change (C := Try.checked) own started (by kernel_rfl) Try.func6
    (ChangeSpec.witness6 (enc := enc) (C := Try.checked) false ⟨#[], #[.int .u8 0, .bool false, .int .u8 0], []⟩ 8 (by kernel_rfl) (by kernel_rfl) (by kernel_rfl) (by kernel_rfl)) ?_
  intro W base args ds gs before hval0 hW _ _
  have hval : ∀ (j : Nat) t v, Try.f6.params[j]? = some t → args[j]? = some v → Value.okWide Try.prog W .any base t v := hval0
  have hW' := hW
  obtain ⟨p, q, hA0, hV, rfl, hfz, hnd⟩ := hW
  have hA : DataW.TrodAll enc Try.prog W 0 (fun _ => true) true Try.f6.params.toList args.toList ds p := hA0
  rw [Try.params6] at hA hval
  obtain ⟨v0, vs0, d0, ds0, p0, q0, hargs, rfl, rfl, h0, r0⟩ := trodAll_cons hA
  obtain ⟨v1, vs1, d1, ds1, p1, q1, rfl, rfl, rfl, h1, r1⟩ := trodAll_cons r0
  obtain ⟨v2, vs2, d2, ds2, p2, q2, rfl, rfl, rfl, h2, r2⟩ := trodAll_cons r1
  obtain ⟨rfl, rfl, rfl⟩ := trodAll_nil r2
  obtain rfl : args = #[v0, v1, v2] := by cases args; simp_all
  obtain ⟨rfl, rfl⟩ := trodVars_none hV
  obtain ⟨n, rfl, rfl, rfl, w0⟩ := open_int Try.underlying5 (hval 0 5 v0 rfl rfl) h0
  have z0 := wf_u8 w0
  obtain ⟨erase, rfl, rfl, rfl⟩ := open_bool Try.underlying4 (hval 1 4 v1 rfl rfl) h1
  obtain ⟨times, rfl, rfl, rfl, w2⟩ := open_int Try.underlying5 (hval 2 5 v2 rfl rfl) h2
  have z2 := wf_u8 w2
  clear hA0 hval0
  refine (nandFails_walk n z0.1 z0.2 erase times z2.1 z2.2 W).mono fun e W' ⟨he, hb⟩ => ?_
  subst he
  exact ⟨_, rfl, post_law laidOut (of_decide_eq_true (by kernel_rfl)) rfl rfl Try.underlying4 hW' ⟨rfl, rfl, rfl⟩ hb⟩

/-- THE STATEMENT -/
theorem nandFails_holds : Rows.NandFailsSaid :=
  OpenClaim.holds_of_wide 6 Try.f6 rfl rfl rfl rfl rfl rfl rfl ⟨rfl, rfl, rfl, rfl, rfl⟩ rfl rfl rfl rfl rfl (by kernel_rfl) Try.func6 (by kernel_rfl)
    (of_decide_eq_true (by kernel_rfl)) (by unfold Func.isWrapper; first | (rw [if_pos (by decide +kernel)]; kernel_rfl) | (rw [if_neg (by decide +kernel)]; exact ⟨rfl, rfl⟩))
    (fun os started H enc _ => nandFails_lifted os started H enc)

end Go.Proofs.Ythippbckjldijaa
