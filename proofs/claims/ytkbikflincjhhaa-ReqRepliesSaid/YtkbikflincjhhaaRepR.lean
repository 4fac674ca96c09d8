/-
  Layer 28: replies read: kinds 10, 13, 14.
-/
import Derived.Test.YtkbikflincjhhaaRepW

namespace Go.Proofs.Ytkbikflincjhhaa
set_option linter.unusedSimpArgs false
set_option linter.unusedVariables false
open Go.RowKit Go.WideShapes Go.ChangeShapes Go.ChangeAt Go.Deep
theorem RpF.drew {w W : World} {p rb ra : Nat} {ok : Bool} {l : List UInt8} {C : Array Value} (h : RpF w W p rb ra ok l C) : RpF w W.drew p rb ra ok l C := ⟨h.rq.below ((Below.refl W.heap.size W).drew), h.box, h.res, h.below.drew, h.new⟩
theorem wr_i64b (n : Nat) (h : n < 9223372036854775808) : IntKind.i64.wrap (n : Int) = (n : Int) ∧ wrap64 (n : Int) = (n : Int) := by
  constructor
  · rw [IntKind.wrap_i64]; omega
  · unfold wrap64; omega
theorem readFlag_any (p : Nat) (ok : Bool) (l : List UInt8) (W : World) (h : RQ W p ok l) :
    Calls Try.prog 52 #[.pointer (some ⟨p, 0, none⟩)] W (RNIs p ok l 1 (.tuple #[.bool ((vN ok l 1 : Int) == 1), .bool (decide ((vN ok l 1 : Int) ≤ 1))]) W) := by
  have HC1 := hide (fun W hw => rq_number p ok l 1 (by decide) (by decide) W hw)
  unfold RNIs at HC1
  have H0 := hide h
  clear h
  generalize vN ok l 1 = n1 at *
  go_enter Try.func52, Try.ntmps52
  go_wp2_with fail
  refine (HC1.out _ H0.out).mono ?_
  rintro e w1 ⟨rfl, hr, ho⟩
  have F1 := hide (And.intro hr ho)
  clear hr ho
  go_wp2_with fail
  go_ret2
  exact ⟨rfl, F1.out⟩
set_option maxRecDepth 100000 in
set_option maxHeartbeats 1000000 in
theorem rrd10 : RReads 10 := by
  intro p rb ra ok l w W h
  have F0 := hide h
  clear h
  have HC1 := hide (fun W hw => rq_signed p ok l W hw)
  unfold RNIs at HC1
  obtain ⟨n1, hn1⟩ : ∃ n : Nat, vN ok l 8 = n := ⟨_, rfl⟩
  rw [hn1] at HC1
  have HV1 := hide hn1
  clear hn1
  go_enter Try.func33, Try.ntmps33
  go_upto_region 7 with (fail)
  have F0d := hide (show RpF w W.drew p rb ra _ _ #[.int .i64 0, .int .i64 0, .int .i64 0, .int .i64 0, .int .i64 0, .int .i64 0, .int .i64 0, .int .i64 0, .int .i64 0, .int .u8 0, .int .i64 0, .int .i64 0, .int .i64 0, .int .i64 0, .bool false, .slice none 0 0, .int .i64 0, .int .i64 0, .bool false] from F0.out.drew)
  refine wp_region_held_drew (S := (fun _ => True)) (by kernel_rfl) (trivial) (fun hHeld => ?_)
  generalize W.drew = v0 at *
  refine wpAnyH_take (i := 0) (oi := { dst := some 24, op := Op.move (Operand.tmp 0), type := 122, pos := "reply.go:103", after := #[], guard := none }) (v := ?_) rfl (by kernel_rfl) (by kernel_rfl) (by kernel_rfl) (fun _ _ _ h => h) (Or.inl ⟨by kernel_rfl, ?_⟩) hHeld ?_
  rotate_left
  · (intro w hSw; (try dsimp only at hSw); go_simp); try with_reducible rfl
  try simp only [Act.put, List.setIfInBounds_toArray, List.set_cons_zero, List.set_cons_succ]
  refine wpAnyH_take (i := 1) (oi := { dst := some 25, op := Op.move (Operand.tmp 1), type := 95, pos := "reply.go:103", after := #[], guard := none }) (v := ?_) rfl (by kernel_rfl) (by kernel_rfl) (by kernel_rfl) (fun _ _ _ h => h) (Or.inl ⟨by kernel_rfl, ?_⟩) hHeld ?_
  rotate_left
  · (intro w hSw; (try dsimp only at hSw); go_simp); try with_reducible rfl
  try simp only [Act.put, List.setIfInBounds_toArray, List.set_cons_zero, List.set_cons_succ]
  refine wpAnyH_take (i := 3) (oi := { dst := some 27, op := Op.nilCheck (Operand.tmp 24), type := 0, pos := "reply.go:103", after := #[{ on := 0, ground := Ground.data }], guard := none }) (v := ?_) rfl (by kernel_rfl) (by kernel_rfl) (by kernel_rfl) (fun _ _ _ h => h) (Or.inl ⟨by kernel_rfl, ?_⟩) hHeld ?_
  rotate_left
  · (intro w hSw; (try dsimp only at hSw); go_simp); try with_reducible rfl
  try simp only [Act.put, List.setIfInBounds_toArray, List.set_cons_zero, List.set_cons_succ]
  refine wpAnyH_take (i := 4) (oi := { dst := some 28, op := Op.fieldAddr 71 (Operand.tmp 27) 4, type := 0, pos := "reply.go:103", after := #[{ on := 3, ground := Ground.data }], guard := none }) (v := ?_) rfl (by kernel_rfl) (by kernel_rfl) (by kernel_rfl) (fun _ _ _ h => h) (Or.inl ⟨by kernel_rfl, ?_⟩) hHeld ?_
  rotate_left
  · (intro w hSw; (try dsimp only at hSw); go_simp); try with_reducible rfl
  try simp only [Act.put, List.setIfInBounds_toArray, List.set_cons_zero, List.set_cons_succ]
  refine wpAnyH_ready (rs := [2]) (by kernel_rfl) (by simp) (AllReadyH.cons (o := { dst := some 26, op := Op.call { callee := Callee.value (Operand.func 46), args := #[Operand.tmp 25], argTypes := #[95] }, type := 2, pos := "reply.go:103", after := #[{ on := 1, ground := Ground.data }], guard := none }) rfl (fun K hK => ?_) AllReadyH.nil)
  have hOld := hide hHeld
  clear hHeld
  go_simp
  refine (HC1.out _ F0d.out.rq).mono ?_
  rintro e v0e ⟨rfl, hr, ho⟩
  have F0e := hide (F0d.out.step hr ho)
  clear hr ho
  (try go_wp2_with fail)
  refine hK.out _ _ (trivial) (fun hHeld => ?_)
  clear hK K hOld
  try simp only [Act.put, List.setIfInBounds_toArray, List.set_cons_zero, List.set_cons_succ]
  refine wpAnyH_take (i := 5) (oi := { dst := some 29, op := Op.indexAddr 69 (Operand.tmp 28) (Operand.const (Value.int IntKind.i64 0)), type := 0, pos := "reply.go:103", after := #[{ on := 4, ground := Ground.data }, { on := 0, ground := Ground.phase }, { on := 1, ground := Ground.phase }, { on := 2, ground := Ground.phase }], guard := none }) (v := ?_) rfl (by kernel_rfl) (by kernel_rfl) (by kernel_rfl) (fun _ _ _ h => h) (Or.inl ⟨by kernel_rfl, ?_⟩) hHeld ?_
  rotate_left
  · (intro w hSw; (try dsimp only at hSw); go_simp); try with_reducible rfl
  try simp only [Act.put, List.setIfInBounds_toArray, List.set_cons_zero, List.set_cons_succ]
  refine wpAnyH_ready (rs := [6]) (by kernel_rfl) (by simp) (AllReadyH.cons (o := { dst := none, op := Op.store 30 (Operand.tmp 29) (Operand.tmp 26), type := 0, pos := "reply.go:103", after := #[{ on := 5, ground := Ground.data }, { on := 2, ground := Ground.data }, { on := 2, ground := Ground.chain }, { on := 0, ground := Ground.phase }, { on := 1, ground := Ground.phase }, { on := 2, ground := Ground.phase }], guard := none }) rfl (fun K hK => ?_) AllReadyH.nil)
  have hOld := hide hHeld
  clear hHeld
  have e16 := cell_of_block F0e.out.box 16
  have z16 := frozen_of_block F0e.out.box 16
  go_simp
  have F0n := hide (show RpF w _ p rb ra _ _ #[.int .i64 0, .int .i64 0, .int .i64 0, .int .i64 0, .int .i64 0, .int .i64 0, .int .i64 0, .int .i64 0, .int .i64 0, .int .u8 0, .int .i64 0, .int .i64 0, .int .i64 0, .int .i64 0, .bool false, .slice none 0 0, .int .i64 (wrap64 (n1 : Int)), .int .i64 0, .bool false] from F0e.out.store 16 (.int .i64 (wrap64 (n1 : Int))))
  clear e16 z16
  refine hK.out _ _ (trivial) (fun hHeld => ?_)
  clear hK K hOld
  try simp only [Act.put, List.setIfInBounds_toArray, List.set_cons_zero, List.set_cons_succ]
  refine wpAnyH_done (by kernel_rfl) ?_ _
  clear hHeld
  go_wp2_with fail
  go_ret
  refine ⟨{ rp0 with a0 := wrap64 (n1 : Int) }, none, 0, true, _, _, rfl, F0n.out, LnFrom.nil _ _ _, ?_, fun hok hd => ?_⟩
  · rw [show repD 10 l = decide (l.length = 8) from rfl, decide_eq_true_eq]
    constructor
    · rintro ⟨-, h2, h3⟩
      have h4 := congrArg List.length h3
      rw [List.length_drop] at h4
      simp only [List.length_nil] at h4
      rw [Bool.and_eq_true, decide_eq_true_eq] at h2
      exact ⟨h2.1, by omega⟩
    · rintro ⟨h1, h4⟩
      exact ⟨rfl, by rw [h1]; simp; omega, List.drop_of_length_le (by omega)⟩
  · rw [show repD 10 l = decide (l.length = 8) from rfl, decide_eq_true_eq] at hd
    have y1 : n1 = fl l 0 8 := by rw [← HV1.out, hok, vN_true _ _ (by omega)]; unfold fl; rw [List.drop_zero]
    rw [y1]
    rfl
set_option maxRecDepth 100000 in
set_option maxHeartbeats 1000000 in
theorem rrd13 : RReads 13 := by
  intro p rb ra ok l w W h
  have F0 := hide h
  clear h
  have HC1 := hide (fun W hw => rq_signed p ok l W hw)
  have HC2 := hide (fun W hw => rq_signed p (ok && decide (8 ≤ l.length)) (l.drop 8) W hw)
  unfold RNIs at HC1 HC2
  obtain ⟨n1, hn1⟩ : ∃ n : Nat, vN ok l 8 = n := ⟨_, rfl⟩
  obtain ⟨n2, hn2⟩ : ∃ n : Nat, vN (ok && decide (8 ≤ l.length)) (l.drop 8) 8 = n := ⟨_, rfl⟩
  rw [hn1] at HC1
  rw [hn2] at HC2
  have HV1 := hide hn1
  have HV2 := hide hn2
  clear hn1 hn2
  go_enter Try.func33, Try.ntmps33
  go_upto_region 13 with (fail)
  have F0d := hide (show RpF w W.drew p rb ra _ _ #[.int .i64 0, .int .i64 0, .int .i64 0, .int .i64 0, .int .i64 0, .int .i64 0, .int .i64 0, .int .i64 0, .int .i64 0, .int .u8 0, .int .i64 0, .int .i64 0, .int .i64 0, .int .i64 0, .bool false, .slice none 0 0, .int .i64 0, .int .i64 0, .bool false] from F0.out.drew)
  refine wp_region_held_drew (S := (fun _ => True)) (by kernel_rfl) (trivial) (fun hHeld => ?_)
  generalize W.drew = v0 at *
  refine wpAnyH_take (i := 0) (oi := { dst := some 49, op := Op.move (Operand.tmp 0), type := 122, pos := "reply.go:109", after := #[], guard := none }) (v := ?_) rfl (by kernel_rfl) (by kernel_rfl) (by kernel_rfl) (fun _ _ _ h => h) (Or.inl ⟨by kernel_rfl, ?_⟩) hHeld ?_
  rotate_left
  · (intro w hSw; (try dsimp only at hSw); go_simp); try with_reducible rfl
  try simp only [Act.put, List.setIfInBounds_toArray, List.set_cons_zero, List.set_cons_succ]
  refine wpAnyH_take (i := 1) (oi := { dst := some 50, op := Op.move (Operand.tmp 1), type := 95, pos := "reply.go:109", after := #[], guard := none }) (v := ?_) rfl (by kernel_rfl) (by kernel_rfl) (by kernel_rfl) (fun _ _ _ h => h) (Or.inl ⟨by kernel_rfl, ?_⟩) hHeld ?_
  rotate_left
  · (intro w hSw; (try dsimp only at hSw); go_simp); try with_reducible rfl
  try simp only [Act.put, List.setIfInBounds_toArray, List.set_cons_zero, List.set_cons_succ]
  refine wpAnyH_take (i := 3) (oi := { dst := some 52, op := Op.nilCheck (Operand.tmp 49), type := 0, pos := "reply.go:109", after := #[{ on := 0, ground := Ground.data }], guard := none }) (v := ?_) rfl (by kernel_rfl) (by kernel_rfl) (by kernel_rfl) (fun _ _ _ h => h) (Or.inl ⟨by kernel_rfl, ?_⟩) hHeld ?_
  rotate_left
  · (intro w hSw; (try dsimp only at hSw); go_simp); try with_reducible rfl
  try simp only [Act.put, List.setIfInBounds_toArray, List.set_cons_zero, List.set_cons_succ]
  refine wpAnyH_take (i := 4) (oi := { dst := some 53, op := Op.fieldAddr 71 (Operand.tmp 52) 4, type := 0, pos := "reply.go:109", after := #[{ on := 3, ground := Ground.data }], guard := none }) (v := ?_) rfl (by kernel_rfl) (by kernel_rfl) (by kernel_rfl) (fun _ _ _ h => h) (Or.inl ⟨by kernel_rfl, ?_⟩) hHeld ?_
  rotate_left
  · (intro w hSw; (try dsimp only at hSw); go_simp); try with_reducible rfl
  try simp only [Act.put, List.setIfInBounds_toArray, List.set_cons_zero, List.set_cons_succ]
  refine wpAnyH_ready (rs := [2]) (by kernel_rfl) (by simp) (AllReadyH.cons (o := { dst := some 51, op := Op.call { callee := Callee.value (Operand.func 46), args := #[Operand.tmp 50], argTypes := #[95] }, type := 2, pos := "reply.go:109", after := #[{ on := 1, ground := Ground.data }], guard := none }) rfl (fun K hK => ?_) AllReadyH.nil)
  have hOld := hide hHeld
  clear hHeld
  go_simp
  refine (HC1.out _ F0d.out.rq).mono ?_
  rintro e v0e ⟨rfl, hr, ho⟩
  have F0e := hide (F0d.out.step hr ho)
  clear hr ho
  (try go_wp2_with fail)
  refine hK.out _ _ (trivial) (fun hHeld => ?_)
  clear hK K hOld
  try simp only [Act.put, List.setIfInBounds_toArray, List.set_cons_zero, List.set_cons_succ]
  refine wpAnyH_take (i := 5) (oi := { dst := some 54, op := Op.indexAddr 69 (Operand.tmp 53) (Operand.const (Value.int IntKind.i64 0)), type := 0, pos := "reply.go:109", after := #[{ on := 4, ground := Ground.data }, { on := 0, ground := Ground.phase }, { on := 1, ground := Ground.phase }, { on := 2, ground := Ground.phase }], guard := none }) (v := ?_) rfl (by kernel_rfl) (by kernel_rfl) (by kernel_rfl) (fun _ _ _ h => h) (Or.inl ⟨by kernel_rfl, ?_⟩) hHeld ?_
  rotate_left
  · (intro w hSw; (try dsimp only at hSw); go_simp); try with_reducible rfl
  try simp only [Act.put, List.setIfInBounds_toArray, List.set_cons_zero, List.set_cons_succ]
  refine wpAnyH_ready (rs := [6]) (by kernel_rfl) (by simp) (AllReadyH.cons (o := { dst := none, op := Op.store 30 (Operand.tmp 54) (Operand.tmp 51), type := 0, pos := "reply.go:109", after := #[{ on := 5, ground := Ground.data }, { on := 2, ground := Ground.data }, { on := 2, ground := Ground.chain }, { on := 0, ground := Ground.phase }, { on := 1, ground := Ground.phase }, { on := 2, ground := Ground.phase }], guard := none }) rfl (fun K hK => ?_) AllReadyH.nil)
  have hOld := hide hHeld
  clear hHeld
  have e16 := cell_of_block F0e.out.box 16
  have z16 := frozen_of_block F0e.out.box 16
  go_simp
  have F0n := hide (show RpF w _ p rb ra _ _ #[.int .i64 0, .int .i64 0, .int .i64 0, .int .i64 0, .int .i64 0, .int .i64 0, .int .i64 0, .int .i64 0, .int .i64 0, .int .u8 0, .int .i64 0, .int .i64 0, .int .i64 0, .int .i64 0, .bool false, .slice none 0 0, .int .i64 (wrap64 (n1 : Int)), .int .i64 0, .bool false] from F0e.out.store 16 (.int .i64 (wrap64 (n1 : Int))))
  clear e16 z16
  refine hK.out _ _ (trivial) (fun hHeld => ?_)
  clear hK K hOld
  try simp only [Act.put, List.setIfInBounds_toArray, List.set_cons_zero, List.set_cons_succ]
  refine wpAnyH_done (by kernel_rfl) ?_ _
  clear hHeld
  generalize (World.setCell _ _ _) = wx at *
  go_upto_region 14 with (fail)
  have F0nd := hide (show RpF w wx.drew p rb ra _ _ #[.int .i64 0, .int .i64 0, .int .i64 0, .int .i64 0, .int .i64 0, .int .i64 0, .int .i64 0, .int .i64 0, .int .i64 0, .int .u8 0, .int .i64 0, .int .i64 0, .int .i64 0, .int .i64 0, .bool false, .slice none 0 0, .int .i64 (wrap64 (n1 : Int)), .int .i64 0, .bool false] from F0n.out.drew)
  refine wp_region_held_drew (S := (fun _ => True)) (by kernel_rfl) (trivial) (fun hHeld => ?_)
  generalize wx.drew = v0 at *
  refine wpAnyH_take (i := 0) (oi := { dst := some 55, op := Op.move (Operand.tmp 0), type := 122, pos := "reply.go:110", after := #[], guard := none }) (v := ?_) rfl (by kernel_rfl) (by kernel_rfl) (by kernel_rfl) (fun _ _ _ h => h) (Or.inl ⟨by kernel_rfl, ?_⟩) hHeld ?_
  rotate_left
  · (intro w hSw; (try dsimp only at hSw); go_simp); try with_reducible rfl
  try simp only [Act.put, List.setIfInBounds_toArray, List.set_cons_zero, List.set_cons_succ]
  refine wpAnyH_take (i := 1) (oi := { dst := some 56, op := Op.move (Operand.tmp 1), type := 95, pos := "reply.go:110", after := #[], guard := none }) (v := ?_) rfl (by kernel_rfl) (by kernel_rfl) (by kernel_rfl) (fun _ _ _ h => h) (Or.inl ⟨by kernel_rfl, ?_⟩) hHeld ?_
  rotate_left
  · (intro w hSw; (try dsimp only at hSw); go_simp); try with_reducible rfl
  try simp only [Act.put, List.setIfInBounds_toArray, List.set_cons_zero, List.set_cons_succ]
  refine wpAnyH_take (i := 3) (oi := { dst := some 58, op := Op.nilCheck (Operand.tmp 55), type := 0, pos := "reply.go:110", after := #[{ on := 0, ground := Ground.data }], guard := none }) (v := ?_) rfl (by kernel_rfl) (by kernel_rfl) (by kernel_rfl) (fun _ _ _ h => h) (Or.inl ⟨by kernel_rfl, ?_⟩) hHeld ?_
  rotate_left
  · (intro w hSw; (try dsimp only at hSw); go_simp); try with_reducible rfl
  try simp only [Act.put, List.setIfInBounds_toArray, List.set_cons_zero, List.set_cons_succ]
  refine wpAnyH_take (i := 4) (oi := { dst := some 59, op := Op.fieldAddr 71 (Operand.tmp 58) 4, type := 0, pos := "reply.go:110", after := #[{ on := 3, ground := Ground.data }], guard := none }) (v := ?_) rfl (by kernel_rfl) (by kernel_rfl) (by kernel_rfl) (fun _ _ _ h => h) (Or.inl ⟨by kernel_rfl, ?_⟩) hHeld ?_
  rotate_left
  · (intro w hSw; (try dsimp only at hSw); go_simp); try with_reducible rfl
  try simp only [Act.put, List.setIfInBounds_toArray, List.set_cons_zero, List.set_cons_succ]
  refine wpAnyH_ready (rs := [2]) (by kernel_rfl) (by simp) (AllReadyH.cons (o := { dst := some 57, op := Op.call { callee := Callee.value (Operand.func 46), args := #[Operand.tmp 56], argTypes := #[95] }, type := 2, pos := "reply.go:110", after := #[{ on := 1, ground := Ground.data }], guard := none }) rfl (fun K hK => ?_) AllReadyH.nil)
  have hOld := hide hHeld
  clear hHeld
  go_simp
  refine (HC2.out _ F0nd.out.rq).mono ?_
  rintro e v0ne ⟨rfl, hr, ho⟩
  have F0ne := hide (F0nd.out.step hr ho)
  clear hr ho
  (try go_wp2_with fail)
  refine hK.out _ _ (trivial) (fun hHeld => ?_)
  clear hK K hOld
  try simp only [Act.put, List.setIfInBounds_toArray, List.set_cons_zero, List.set_cons_succ]
  refine wpAnyH_take (i := 5) (oi := { dst := some 60, op := Op.indexAddr 69 (Operand.tmp 59) (Operand.const (Value.int IntKind.i64 1)), type := 0, pos := "reply.go:110", after := #[{ on := 4, ground := Ground.data }, { on := 0, ground := Ground.phase }, { on := 1, ground := Ground.phase }, { on := 2, ground := Ground.phase }], guard := none }) (v := ?_) rfl (by kernel_rfl) (by kernel_rfl) (by kernel_rfl) (fun _ _ _ h => h) (Or.inl ⟨by kernel_rfl, ?_⟩) hHeld ?_
  rotate_left
  · (intro w hSw; (try dsimp only at hSw); go_simp); try with_reducible rfl
  try simp only [Act.put, List.setIfInBounds_toArray, List.set_cons_zero, List.set_cons_succ]
  refine wpAnyH_ready (rs := [6]) (by kernel_rfl) (by simp) (AllReadyH.cons (o := { dst := none, op := Op.store 30 (Operand.tmp 60) (Operand.tmp 57), type := 0, pos := "reply.go:110", after := #[{ on := 5, ground := Ground.data }, { on := 2, ground := Ground.data }, { on := 2, ground := Ground.chain }, { on := 0, ground := Ground.phase }, { on := 1, ground := Ground.phase }, { on := 2, ground := Ground.phase }], guard := none }) rfl (fun K hK => ?_) AllReadyH.nil)
  have hOld := hide hHeld
  clear hHeld
  have e17 := cell_of_block F0ne.out.box 17
  have z17 := frozen_of_block F0ne.out.box 17
  go_simp
  have F0nn := hide (show RpF w _ p rb ra _ _ #[.int .i64 0, .int .i64 0, .int .i64 0, .int .i64 0, .int .i64 0, .int .i64 0, .int .i64 0, .int .i64 0, .int .i64 0, .int .u8 0, .int .i64 0, .int .i64 0, .int .i64 0, .int .i64 0, .bool false, .slice none 0 0, .int .i64 (wrap64 (n1 : Int)), .int .i64 (wrap64 (n2 : Int)), .bool false] from F0ne.out.store 17 (.int .i64 (wrap64 (n2 : Int))))
  clear e17 z17
  refine hK.out _ _ (trivial) (fun hHeld => ?_)
  clear hK K hOld
  try simp only [Act.put, List.setIfInBounds_toArray, List.set_cons_zero, List.set_cons_succ]
  refine wpAnyH_done (by kernel_rfl) ?_ _
  clear hHeld
  go_wp2_with fail
  go_ret
  refine ⟨{ rp0 with a0 := wrap64 (n1 : Int), a1 := wrap64 (n2 : Int) }, none, 0, true, _, _, rfl, F0nn.out, LnFrom.nil _ _ _, ?_, fun hok hd => ?_⟩
  · rw [show repD 13 l = decide (l.length = 16) from rfl, decide_eq_true_eq]
    constructor
    · rintro ⟨-, h2, h3⟩
      have h4 := congrArg List.length h3
      rw [List.length_drop, List.length_drop] at h4
      simp only [List.length_nil] at h4
      rw [Bool.and_eq_true, Bool.and_eq_true, decide_eq_true_eq, decide_eq_true_eq, List.length_drop] at h2
      exact ⟨h2.1.1, by omega⟩
    · rintro ⟨h1, h4⟩
      exact ⟨rfl, by rw [h1]; simp; omega, by rw [List.drop_drop]; exact List.drop_of_length_le (by omega)⟩
  · rw [show repD 13 l = decide (l.length = 16) from rfl, decide_eq_true_eq] at hd
    have y1 : n1 = fl l 0 8 := by rw [← HV1.out, hok, vN_true _ _ (by omega)]; unfold fl; rw [List.drop_zero]
    have y2 : n2 = fl l 8 8 := by rw [← HV2.out, hok, show decide (8 ≤ l.length) = true from decide_eq_true (by omega), Bool.and_true, vN_true _ _ (by rw [List.length_drop]; omega)]; rfl
    rw [y1, y2]
    rfl
theorem flag14 (l : List UInt8) (h : l.length = 10) : vN true ((l.drop 4).drop 5) 1 = (l.getD 9 0).toNat := by
  rw [vN_true _ _ (by rw [List.length_drop, List.length_drop]; omega), List.drop_drop]
  have e : (l.drop (4 + 5)).take 1 = [l[9]] := by rw [List.drop_eq_getElem_cons (show 4 + 5 < l.length by omega)]; rfl
  rw [e]
  simp [getN, List.getD, h]
set_option maxRecDepth 100000 in
set_option maxHeartbeats 1000000 in
theorem rrd14 : RReads 14 := by
  intro p rb ra ok l w W h
  have F0 := hide h
  clear h
  have HC1 := hide (fun W hw => rq_number p ok l 4 (by decide) (by decide) W hw)
  have HC2 := hide (fun W hw => rq_number p (ok && decide (4 ≤ l.length)) (l.drop 4) 5 (by decide) (by decide) W hw)
  have HC3 := hide (fun W hw => readFlag_any p (ok && decide (4 ≤ l.length) && decide (5 ≤ (l.drop 4).length)) ((l.drop 4).drop 5) W hw)
  unfold RNIs at HC1 HC2 HC3
  obtain ⟨n1, hn1⟩ : ∃ n : Nat, vN ok l 4 = n := ⟨_, rfl⟩
  obtain ⟨n2, hn2⟩ : ∃ n : Nat, vN (ok && decide (4 ≤ l.length)) (l.drop 4) 5 = n := ⟨_, rfl⟩
  obtain ⟨n3, hn3⟩ : ∃ n : Nat, vN (ok && decide (4 ≤ l.length) && decide (5 ≤ (l.drop 4).length)) ((l.drop 4).drop 5) 1 = n := ⟨_, rfl⟩
  have hb1 := vN_lt ok l 4
  have hb2 := vN_lt (ok && decide (4 ≤ l.length)) (l.drop 4) 5
  rw [hn1] at HC1 hb1
  rw [hn2] at HC2 hb2
  rw [hn3] at HC3
  have HV1 := hide hn1
  have HV2 := hide hn2
  have HV3 := hide hn3
  obtain ⟨cn1a, cn1b⟩ := wr_i64 n1 (by omega)
  obtain ⟨cn2a, cn2b⟩ := wr_i64b n2 (by omega)
  have dn1 : 0 ≤ (n1 : Int) ∧ (n1 : Int) ≤ 4294967295 := by omega
  have dn2 : 0 ≤ (n2 : Int) ∧ (n2 : Int) ≤ 1099511627775 := by omega
  clear hn1 hn2 hn3 hb1 hb2
  generalize hb1 : ((n3 : Int) == 1) = f1 at *
  generalize hb2 : (decide ((n3 : Int) ≤ 1)) = f2 at *
  have HB1 := hide hb1
  have HB2 := hide hb2
  clear hb1 hb2
  go_enter Try.func33, Try.ntmps33
  go_wp2_with fail
  refine (HC1.out _ F0.out.rq).mono ?_
  rintro e w1 ⟨rfl, hr, ho⟩
  have F1 := hide (F0.out.step hr ho)
  clear hr ho
  have e1 := cell_of_block F1.out.box 1
  have z1 := frozen_of_block F1.out.box 1
  have F2 := hide (show RpF w (w1.setCell ⟨rb, 1, none⟩ (.int .i64 (n1 : Int))) p rb ra _ _ #[.int .i64 0, .int .i64 (n1 : Int), .int .i64 0, .int .i64 0, .int .i64 0, .int .i64 0, .int .i64 0, .int .i64 0, .int .i64 0, .int .u8 0, .int .i64 0, .int .i64 0, .int .i64 0, .int .i64 0, .bool false, .slice none 0 0, .int .i64 0, .int .i64 0, .bool false] from F1.out.store 1 (.int .i64 (n1 : Int)))
  go_wp2_with fail
  refine (HC2.out _ F2.out.rq).mono ?_
  rintro e w3 ⟨rfl, hr, ho⟩
  have F3 := hide (F2.out.step hr ho)
  clear hr ho e1 z1
  have e8 := cell_of_block F3.out.box 8
  have z8 := frozen_of_block F3.out.box 8
  have F4 := hide (show RpF w (w3.setCell ⟨rb, 8, none⟩ (.int .i64 (n2 : Int))) p rb ra _ _ #[.int .i64 0, .int .i64 (n1 : Int), .int .i64 0, .int .i64 0, .int .i64 0, .int .i64 0, .int .i64 0, .int .i64 0, .int .i64 (n2 : Int), .int .u8 0, .int .i64 0, .int .i64 0, .int .i64 0, .int .i64 0, .bool false, .slice none 0 0, .int .i64 0, .int .i64 0, .bool false] from F3.out.store 8 (.int .i64 (n2 : Int)))
  go_wp2_with fail
  refine (HC3.out _ F4.out.rq).mono ?_
  rintro e w5 ⟨rfl, hr, ho⟩
  have F5 := hide (F4.out.step hr ho)
  clear hr ho e8 z8
  have e18 := cell_of_block F5.out.box 18
  have z18 := frozen_of_block F5.out.box 18
  have F6 := hide (show RpF w (w5.setCell ⟨rb, 18, none⟩ (.bool f1)) p rb ra _ _ #[.int .i64 0, .int .i64 (n1 : Int), .int .i64 0, .int .i64 0, .int .i64 0, .int .i64 0, .int .i64 0, .int .i64 0, .int .i64 (n2 : Int), .int .u8 0, .int .i64 0, .int .i64 0, .int .i64 0, .int .i64 0, .bool false, .slice none 0 0, .int .i64 0, .int .i64 0, .bool f1] from F5.out.store 18 (.bool f1))
  go_wp2_with fail
  go_ret
  refine ⟨{ rp0 with num := n1, tn := n2, rd := f1 }, none, 0, f2, _, _, rfl, F6.out, LnFrom.nil _ _ _, ?_, fun hok hd => ?_⟩
  · rw [show repD 14 l = decide (l.length = 10 ∧ (l.getD 9 0).toNat ≤ 1) from rfl, decide_eq_true_eq]
    constructor
    · rintro ⟨h1, h2, h3⟩
      have h4 := congrArg List.length h3
      rw [List.length_drop, List.length_drop, List.length_drop] at h4
      simp only [List.length_nil] at h4
      simp only [Bool.and_eq_true, decide_eq_true_eq, List.length_drop] at h2
      refine ⟨h2.1.1.1, by omega, ?_⟩
      have y3 := flag14 l (by omega)
      rw [h2.1.1.1, show decide (4 ≤ l.length) = true from decide_eq_true (by omega), show decide (5 ≤ (l.drop 4).length) = true from decide_eq_true (by rw [List.length_drop]; omega)] at HV3
      have := HV3.out
      rw [← HB2.out, decide_eq_true_eq] at h1
      simp only [Bool.and_self] at this
      omega
    · rintro ⟨h1, h4, h5⟩
      have y3 := flag14 l (by omega)
      rw [h1, show decide (4 ≤ l.length) = true from decide_eq_true (by omega), show decide (5 ≤ (l.drop 4).length) = true from decide_eq_true (by rw [List.length_drop]; omega)] at HV3
      have := HV3.out
      simp only [Bool.and_self] at this
      exact ⟨by rw [← HB2.out, decide_eq_true_eq]; omega, by rw [h1]; simp; omega, by rw [List.drop_drop, List.drop_drop]; exact List.drop_of_length_le (by omega)⟩
  · rw [show repD 14 l = decide (l.length = 10 ∧ (l.getD 9 0).toNat ≤ 1) from rfl, decide_eq_true_eq] at hd
    obtain ⟨h4, h5⟩ := hd
    have d4 : decide (4 ≤ l.length) = true := decide_eq_true (by omega)
    have d5 : decide (5 ≤ (l.drop 4).length) = true := decide_eq_true (by rw [List.length_drop]; omega)
    have y1 : n1 = fl l 0 4 := by rw [← HV1.out, hok, vN_true _ _ (by omega)]; unfold fl; rw [List.drop_zero]
    have y2 : n2 = fl l 4 5 := by rw [← HV2.out, hok, d4, Bool.and_true, vN_true _ _ (by rw [List.length_drop]; omega)]; rfl
    have y3 : n3 = fl l 9 1 := by rw [← HV3.out, hok, d4, d5, Bool.and_true, Bool.and_true, vN_true _ _ (by rw [List.length_drop, List.length_drop]; omega), List.drop_drop]; rfl
    have y4 : f1 = decide (fl l 9 1 = 1) := by rw [← HB1.out, y3, Bool.eq_iff_iff, beq_iff_eq, decide_eq_true_eq]; omega
    rw [y1, y2, y4]
    rfl
end Go.Proofs.Ytkbikflincjhhaa
