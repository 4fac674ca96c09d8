/-
  Layer 23: Write of books; the document's Text.
-/
import Derived.Test.YtjnfmgbbhiklaaaRBooks3
import Derived.Test.YtjnfmgbbhiklaaaWF
--import Derived.Test.Zdbg
namespace Go.Proofs.Ytjnfmgbbhiklaaa
set_option linter.unusedSimpArgs false
set_option linter.unusedVariables false
open Go.RowKit Go.WideShapes Go.ChangeShapes Go.ChangeAt Go.Deep

/-- a balance's fields -/
def bkE (x : LnM) : List Fld := [⟨0, 2, x.c, ⟨#[]⟩⟩, ⟨1, 0, IntKind.u64.wrap x.n, ⟨#[]⟩⟩]
theorem bkE_len (x : LnM) : (bkE x).length = 2 := rfl
theorem flat_len2 : ∀ L : List LnM, (L.flatMap bkE).length = L.length * 2 := by
  intro L
  induction L with
  | nil => rfl
  | cons x L ih => rw [List.flatMap_cons, List.length_append, ih, bkE_len, List.length_cons]; omega
/-- the fields of the first m balances of books -/
def bkFk (M : List LnM) (m : Nat) : List Fld := [⟨0, 2, M.length, ⟨#[]⟩⟩] ++ (M.take m).flatMap bkE
def bkF (M : List LnM) : List Fld := [⟨0, 2, M.length, ⟨#[]⟩⟩] ++ M.flatMap bkE
theorem bkFk_zero (M : List LnM) : bkFk M 0 = [⟨0, 2, M.length, ⟨#[]⟩⟩] := by simp [bkFk]
theorem bkFk_all (M : List LnM) : bkFk M M.length = bkF M := by unfold bkFk bkF; rw [List.take_length]
theorem bkFk_next (M : List LnM) (m : Nat) (h : m < M.length) : bkFk M (m + 1) = bkFk M m ++ bkE (M.getD m ln0) := by
  unfold bkFk
  rw [ln_next M m h, List.flatMap_append, ← List.append_assoc]
  simp
theorem bkFk_len (M : List LnM) (m : Nat) (h : m ≤ M.length) : (bkFk M m).length ≤ 1 + 2 * M.length := by
  unfold bkFk
  rw [List.length_append, flat_len2, List.length_take]
  simp; omega
theorem wrFs_append (A B : List Fld) : wrFs (A ++ B) = B.foldl (fun z x => wrF z.1 z.2 x) (wrFs A) := by unfold wrFs; rw [List.foldl_append]
theorem wr_okN (l : List UInt8) (wd n : Int) (hf : fitsB n.toNat wd = true) : (wrF l false ⟨0, wd, n, ⟨#[]⟩⟩).2 = false := by
  show wrB false (fitsB n.toNat wd) = false
  rw [hf]; rfl
theorem fits_small (n w : Nat) (hw : 1 ≤ w ∧ w ≤ 8) (hn : n < 256 ^ w) : fitsB n (w : Int) = true := by
  unfold fitsB
  exact decide_eq_true ⟨by omega, by omega, by simpa using hn⟩
def OkB (M : List LnM) : Prop := ∀ x ∈ M, inR x.n ∧ 0 ≤ x.c ∧ x.c ≤ 65535
theorem u64_in (n : Int) : 0 ≤ IntKind.u64.wrap n ∧ IntKind.u64.wrap n ≤ 18446744073709551615 := by rw [IntKind.wrap_u64]; omega
theorem bkE_ok {x : LnM} (h : 0 ≤ x.c ∧ x.c ≤ 65535) (z : List UInt8 × Bool) (hz : z.2 = false) : ((bkE x).foldl (fun z x => wrF z.1 z.2 x) z).2 = false := by
  obtain ⟨l, b⟩ := z
  dsimp only at hz
  subst hz
  unfold bkE
  simp only [List.foldl_cons, List.foldl_nil]
  have h1 : (wrF l false ⟨0, 2, x.c, ⟨#[]⟩⟩).2 = false := wr_okN _ _ _ (fits_small _ 2 (by decide) (by omega))
  generalize wrF l false ⟨0, 2, x.c, ⟨#[]⟩⟩ = z1 at *
  obtain ⟨l1, b1⟩ := z1
  dsimp only at h1 ⊢
  subst h1
  show wrB false (fitsB (IntKind.u64.wrap x.n).toNat 8) = false
  have hf : fitsB (IntKind.u64.wrap x.n).toNat ((8 : Nat) : Int) = true := fits_small _ 8 (by decide) (by have := u64_in x.n; omega)
  rw [show fitsB (IntKind.u64.wrap x.n).toNat 8 = true from hf]; rfl
theorem bkF_ok {M : List LnM} (h : OkB M) (hl : M.length ≤ 65535) : (wrFs (bkF M)).2 = false := by
  unfold bkF
  rw [wrFs_append]
  have h0 : (wrFs [⟨0, 2, M.length, ⟨#[]⟩⟩]).2 = false := wr_okN [] 2 M.length (fits_small _ 2 (by decide) (by omega))
  generalize wrFs [⟨0, 2, M.length, ⟨#[]⟩⟩] = z at *
  clear hl
  induction M generalizing z with
  | nil => exact h0
  | cons x M ih =>
    rw [List.flatMap_cons, List.foldl_append]
    exact ih (fun y hy => h y (by simp [hy])) _ (bkE_ok (h x (by simp)).2 z h0)
theorem bkF_good {M : List LnM} (h : OkB M) (hl : M.length ≤ 65535) : ∀ f ∈ bkF M, FldGood f := by
  intro f hf
  unfold bkF at hf
  rcases List.mem_append.1 hf with hf | hf
  · simp at hf; subst hf
    refine ⟨by dsimp only; decide, by dsimp only; decide, ⟨by dsimp only; omega, by dsimp only; omega⟩, by dsimp only; decide⟩
  · obtain ⟨x, hx, hf⟩ := List.mem_flatMap.1 hf
    obtain ⟨-, c1, c2⟩ := h x hx
    unfold bkE at hf
    simp only [List.mem_cons, List.mem_nil_iff, or_false] at hf
    have hu := u64_in x.n
    rcases hf with rfl | rfl
    · exact ⟨by dsimp only; decide, by dsimp only; decide, ⟨by dsimp only; omega, by dsimp only; omega⟩, by dsimp only; decide⟩
    · exact ⟨by dsimp only; decide, by dsimp only; decide, ⟨hu.1, hu.2⟩, by dsimp only; decide⟩
set_option maxRecDepth 100000 in
set_option maxHeartbeats 1000000 in
theorem bkwrite_any (N p bm : Nat) (M : List LnM) (hML : M.length ≤ 4000) (q : Nat) (w0 w : World) (hC : BooksIs N w0 p bm M) (hlow : Below w0.heap.size w0 w) (hW : WF w w0.heap.size q []) (hB : w0.heap.size ≤ q) :
    Calls Try.prog 16 #[.pointer (some ⟨p, 0, none⟩), .pointer (some ⟨q, 0, none⟩)] w fun e w' => e = .returned (.tuple #[]) ∧ WF w' w0.heap.size q (bkF M) ∧ Below w0.heap.size w0 w' := by
  have C0 := hide hC
  have F0 := hide hW
  have B0 := hide hlow
  have HB := hide hB
  have HOK := hide hC.ok
  have C1 := hide (show BooksIs N w p bm M from hC.kept (hlow.block _ hC.lt.2) (hlow.block _ hC.lt.1))
  have e0 := cell_of_block C1.out.head 0
  obtain ⟨f, nn, hnn, hM, hF⟩ := C1.out.map
  have HM := hide hM
  clear hC hW hlow hB hM hF
  have hu : IntKind.u64.wrap (M.length : Int) = (M.length : Int) := by rw [IntKind.wrap_u64]; omega
  have HN0 := hide (fun W h => wf_number w0.heap.size q [] (by decide) (M.length : Int) (by omega) (by omega) 2 W h HB.out)
  rw [List.nil_append] at HN0
  unfold WFIs at HN0
  go_enter Try.func16, Try.ntmps16
  go_wp2_with (at_len; refine wpList_mapLen w rfl _ 60 rfl 3 37 Try.underlying60 bm nn M.length f rfl HM.out ?_)
  refine (HN0.out _ F0.out).mono ?_
  rintro e w1 ⟨rfl, hf, hb, -⟩
  have F1 := hide hf
  have B1 := hide (B0.out.trans (hb.mono (Nat.le_refl _)))
  have C2 := hide (show BooksIs N w1 p bm M from C0.out.kept (B1.out.block _ C0.out.lt.2) (B1.out.block _ C0.out.lt.1))
  clear hf hb C1 e0 HM HN0 F0 B0 hu
  go_wp2_with fail
  refine (bklist_any N p bm M (by omega) _ C2.out).mono ?_
  rintro e w2 ⟨la, lc, rfl, ho, hb⟩
  have O2 := hide ho
  have F2 := hide (F1.out.below hb)
  have B2 := hide (B1.out.trans (hb.mono B1.out.size))
  have HAT := hide (fun m (h : m < M.length) => bkFk_next M m h)
  have HLL := hide (fun m (h : m ≤ M.length) => bkFk_len M m h)
  clear ho hb C2 F1 B1
  rw [← bkFk_zero M] at F2
  go_wp2_with fail
  go_loopw [19] (fun i W => ∃ m : Nat, m ≤ M.length ∧ i = .int .i64 m ∧ W.ownsRow w1.heap.size 76 2 (.slice la M.length lc) M.length (M.flatMap lnC) ∧ WF W w0.heap.size q (bkFk M m) ∧ Below w0.heap.size w0 W) (fun i _ => M.length - (Go.RowKit.intOf i).toNat)
  case atStart => exact ⟨0, by omega, rfl, O2.out, F2.out, B2.out⟩
  case round =>
    obtain ⟨m, hm, rfl, ho, hf, hb⟩ := hrel
    have OM := hide ho
    have FM := hide hf
    have BM := hide hb
    clear ho hf hb O2 F2 B2
    by_cases hlt : m < M.length
    · have HLT := hide hlt
      obtain ⟨bl, off, rfl, hbl, p0, p1⟩ := (LnIn.of_owns OM.out) m hlt
      obtain ⟨hn1, hc1, hc2⟩ := HOK.out (M.getD m ln0) (ln_mem M m hlt)
      have HNX := hide (HAT.out m hlt)
      have hfl := HLL.out m hm
      generalize hLk : bkFk M m = Lk at *
      have HLK := hide hLk
      clear hLk
      generalize M.getD m ln0 = x at *
      obtain ⟨c, n⟩ := x
      dsimp only at *
      have hu1 : IntKind.u64.wrap c = c := by rw [IntKind.wrap_u64]; omega
      have HN1 := hide (fun W h => wf_number w0.heap.size q Lk (by omega) c (by omega) (by omega) 2 W h HB.out)
      have HN2 := hide (fun W h => wf_signed w0.heap.size q (Lk ++ [⟨0, 2, c, ⟨#[]⟩⟩]) (by rw [List.length_append]; simp; omega) n hn1.1 hn1.2 W h HB.out)
      unfold WFIs at HN1 HN2
      clear hn1 hc1 hc2 hfl hbl
      have hal := (Below.refl wr.heap.size wr).alloc (Nat.le_refl _) (.cells #[.int .i64 c, .int .i64 n] 76)
      have X5 := hide (heap_new wr (.cells #[.int .i64 c, .int .i64 n] 76))
      have O5 := hide (owns_below OM.out hal)
      have F5 := hide (FM.out.below hal)
      have B5 := hide (BM.out.trans (hal.mono BM.out.size))
      clear hal OM FM BM
      go_upto_region 5 with (fail)
      generalize wr.alloc (.cells #[.int .i64 c, .int .i64 n] 76) = w5 at *
      generalize wr.heap.size = q5 at *
      clear p0 p1
      have X5 := hide (show w5.drew.heap[q5]? = some (.cells #[.int .i64 c, .int .i64 n] 76 (0, 0)) from X5.out)
      refine wp_region_held_drew (S := (fun W => W.heap[q5]? = some (.cells #[.int .i64 c, .int .i64 n] 76 (0, 0)))) (by kernel_rfl) (X5.out) (fun hHeld => ?_)
      refine wpAnyH_take (i := 0) (oi := { dst := some 23, op := Op.move (Operand.tmp 1), type := 48, pos := "books.go:183", after := #[], guard := none }) (v := ?_) rfl (by kernel_rfl) (by kernel_rfl) (by kernel_rfl) (fun _ _ _ h => h) (Or.inl ⟨by kernel_rfl, ?_⟩) hHeld ?_
      rotate_left
      · (intro w hSw; (try dsimp only at hSw); have e0 : w.cell? ⟨q5, 0, none⟩ = some (.int .i64 c) := cell_of_block hSw 0; have e1 : w.cell? ⟨q5, 1, none⟩ = some (.int .i64 n) := cell_of_block hSw 1; go_simp); try with_reducible rfl
      try simp only [Act.put, List.setIfInBounds_toArray, List.set_cons_zero, List.set_cons_succ]
      refine wpAnyH_take (i := 1) (oi := { dst := some 24, op := Op.fieldAddr 76 (Operand.tmp 5) 0, type := 0, pos := "books.go:183", after := #[], guard := none }) (v := ?_) rfl (by kernel_rfl) (by kernel_rfl) (by kernel_rfl) (fun _ _ _ h => h) (Or.inl ⟨by kernel_rfl, ?_⟩) hHeld ?_
      rotate_left
      · (intro w hSw; (try dsimp only at hSw); have e0 : w.cell? ⟨q5, 0, none⟩ = some (.int .i64 c) := cell_of_block hSw 0; have e1 : w.cell? ⟨q5, 1, none⟩ = some (.int .i64 n) := cell_of_block hSw 1; go_simp); try with_reducible rfl
      try simp only [Act.put, List.setIfInBounds_toArray, List.set_cons_zero, List.set_cons_succ]
      refine wpAnyH_take (i := 2) (oi := { dst := some 25, op := Op.load 3 (Operand.tmp 24), type := 3, pos := "books.go:183", after := #[{ on := 1, ground := Ground.data }], guard := none }) (v := ?_) rfl (by kernel_rfl) (by kernel_rfl) (by kernel_rfl) (fun _ _ _ h => h) (Or.inl ⟨by kernel_rfl, ?_⟩) hHeld ?_
      rotate_left
      · (intro w hSw; (try dsimp only at hSw); have e0 : w.cell? ⟨q5, 0, none⟩ = some (.int .i64 c) := cell_of_block hSw 0; have e1 : w.cell? ⟨q5, 1, none⟩ = some (.int .i64 n) := cell_of_block hSw 1; go_simp); try with_reducible rfl
      try simp only [Act.put, List.setIfInBounds_toArray, List.set_cons_zero, List.set_cons_succ]
      refine wpAnyH_take (i := 3) (oi := { dst := some 26, op := Op.convert 3 79 (Operand.tmp 25), type := 79, pos := "books.go:183", after := #[{ on := 2, ground := Ground.data }], guard := none }) (v := ?_) rfl (by kernel_rfl) (by kernel_rfl) (by kernel_rfl) (fun _ _ _ h => h) (Or.inl ⟨by kernel_rfl, ?_⟩) hHeld ?_
      rotate_left
      · (intro w hSw; (try dsimp only at hSw); have e0 : w.cell? ⟨q5, 0, none⟩ = some (.int .i64 c) := cell_of_block hSw 0; have e1 : w.cell? ⟨q5, 1, none⟩ = some (.int .i64 n) := cell_of_block hSw 1; go_simp); try with_reducible rfl
      try simp only [Act.put, List.setIfInBounds_toArray, List.set_cons_zero, List.set_cons_succ]
      refine wpAnyH_take (i := 5) (oi := { dst := some 28, op := Op.fieldAddr 76 (Operand.tmp 5) 1, type := 0, pos := "books.go:183", after := #[], guard := none }) (v := ?_) rfl (by kernel_rfl) (by kernel_rfl) (by kernel_rfl) (fun _ _ _ h => h) (Or.inl ⟨by kernel_rfl, ?_⟩) hHeld ?_
      rotate_left
      · (intro w hSw; (try dsimp only at hSw); have e0 : w.cell? ⟨q5, 0, none⟩ = some (.int .i64 c) := cell_of_block hSw 0; have e1 : w.cell? ⟨q5, 1, none⟩ = some (.int .i64 n) := cell_of_block hSw 1; go_simp); try with_reducible rfl
      try simp only [Act.put, List.setIfInBounds_toArray, List.set_cons_zero, List.set_cons_succ]
      refine wpAnyH_take (i := 6) (oi := { dst := some 29, op := Op.load 37 (Operand.tmp 28), type := 37, pos := "books.go:183", after := #[{ on := 5, ground := Ground.data }], guard := none }) (v := ?_) rfl (by kernel_rfl) (by kernel_rfl) (by kernel_rfl) (fun _ _ _ h => h) (Or.inl ⟨by kernel_rfl, ?_⟩) hHeld ?_
      rotate_left
      · (intro w hSw; (try dsimp only at hSw); have e0 : w.cell? ⟨q5, 0, none⟩ = some (.int .i64 c) := cell_of_block hSw 0; have e1 : w.cell? ⟨q5, 1, none⟩ = some (.int .i64 n) := cell_of_block hSw 1; go_simp); try with_reducible rfl
      try simp only [Act.put, List.setIfInBounds_toArray, List.set_cons_zero, List.set_cons_succ]
      refine wpAnyH_ready (rs := [4]) (by kernel_rfl) (by simp) ?_
      refine AllReadyH.cons (o := { dst := some 27, op := Op.call { callee := Callee.value (Operand.func 28), args := #[Operand.tmp 23, Operand.tmp 26, Operand.const (Value.int IntKind.i64 2)], argTypes := #[48, 79, 3] }, type := 48, pos := "books.go:183", after := #[{ on := 0, ground := Ground.data }, { on := 3, ground := Ground.data }], guard := none }) rfl (fun K hK => ?_) AllReadyH.nil
      have hOld := hide hHeld
      clear hHeld
      go_simp
      refine (HN1.out _ F5.out.drew).mono ?_
      rintro e v1 ⟨rfl, hw1, hb1, hk1⟩
      have F6 := hide hw1
      (try go_wp2_with fail)
      refine hK.out _ _ (hk1.cells hOld.out (by decide)) (fun hHeld => ?_)
      clear hK K hOld
      try simp only [Act.put, List.setIfInBounds_toArray, List.set_cons_zero, List.set_cons_succ]
      refine wpAnyH_ready (rs := [7]) (by kernel_rfl) (by simp) ?_
      refine AllReadyH.cons (o := { dst := some 30, op := Op.call { callee := Callee.value (Operand.func 29), args := #[Operand.tmp 27, Operand.tmp 29], argTypes := #[48, 2] }, type := 48, pos := "books.go:183", after := #[{ on := 4, ground := Ground.data }, { on := 6, ground := Ground.data }, { on := 4, ground := Ground.chain }], guard := none }) rfl (fun K hK => ?_) AllReadyH.nil
      have hOld := hide hHeld
      clear hHeld
      go_simp
      refine (HN2.out _ F6.out).mono ?_
      rintro e v2 ⟨rfl, hw2, hb2, hk2⟩
      have F7 := hide hw2
      (try go_wp2_with fail)
      refine hK.out _ _ (hk2.cells hOld.out (by decide)) (fun hHeld => ?_)
      clear hK K hOld
      try simp only [Act.put, List.setIfInBounds_toArray, List.set_cons_zero, List.set_cons_succ]
      refine wpAnyH_done (by kernel_rfl) ?_ _
      clear hHeld
      have O8 := hide (hk2.owns (hk1.owns (show w5.drew.ownsRow _ _ _ _ _ _ from O5.out) (by decide)) (by decide))
      have B8 := hide ((B5.out.drew.trans (hb1.mono (Nat.le_refl _))).trans (hb2.mono (Nat.le_refl _)))
      have HNX2 := hide (show bkFk M (m + 1) = (Lk ++ [⟨0, 2, c, ⟨#[]⟩⟩]) ++ [⟨1, 0, IntKind.u64.wrap n, ⟨#[]⟩⟩] from by rw [HNX.out]; simp [bkE])
      clear hw1 hb1 hk1 hw2 hb2 hk2 F5 F6 X5 O5 B5 HN1 HN2 hu1 HNX
      go_wp2_with fail
      go_roundw
      case rel => exact ⟨m + 1, HLT.out, by go_num, O8.out, by rw [HNX2.out]; exact F7.out, B8.out⟩
      case measure => have := HLT.out; simp [Go.RowKit.intOf]; omega
    · obtain rfl : M.length = m := by omega
      rw [bkFk_all] at FM
      go_wp2_with fail
      go_end0
      exact ⟨rfl, FM.out, BM.out⟩
set_option maxRecDepth 100000 in
set_option maxHeartbeats 1000000 in
theorem bkwrite_nil (N p bm : Nat) (M : List LnM) (hML : M.length ≤ 4000) (w : World) (hC : BooksIs N w p bm M) :
    Calls Try.prog 16 #[.pointer (some ⟨p, 0, none⟩), .pointer none] w fun e w' => e = .returned (.tuple #[]) ∧ Below w.heap.size w w' := by
  have C0 := hide hC
  have HOK := hide hC.ok
  have e0 := cell_of_block hC.head 0
  obtain ⟨f, nn, hnn, hM, hF⟩ := hC.map
  have HM := hide hM
  clear hC hM hF
  have hu : IntKind.u64.wrap (M.length : Int) = (M.length : Int) := by rw [IntKind.wrap_u64]; omega
  have HN0 := hide (fun W => wnumber_nil (M.length : Int) (by omega) (by omega) 2 W)
  go_enter Try.func16, Try.ntmps16
  go_wp2_with (at_len; refine wpList_mapLen w rfl _ 60 rfl 3 37 Try.underlying60 bm nn M.length f rfl HM.out ?_)
  refine (HN0.out _).mono ?_
  rintro e w1 ⟨rfl, hb⟩
  have C1 := hide (C0.out.below hb)
  have B1 := hide hb
  clear hb C0 e0 HM HN0 hu
  go_wp2_with fail
  refine (bklist_any N p bm M (by omega) _ C1.out).mono ?_
  rintro e w2 ⟨la, lc, rfl, ho, hb⟩
  have A2 := hide (LnIn.of_owns ho)
  have B2 := hide (B1.out.trans (hb.mono B1.out.size))
  clear ho hb C1 B1
  go_wp2_with fail
  go_loopw [19] (fun i W => ∃ m : Nat, m ≤ M.length ∧ i = .int .i64 m ∧ LnIn W la M ∧ Below w.heap.size w W) (fun i _ => M.length - (Go.RowKit.intOf i).toNat)
  case atStart => exact ⟨0, by omega, rfl, A2.out, B2.out⟩
  case round =>
    obtain ⟨m, hm, rfl, ha, hb⟩ := hrel
    have AM := hide ha
    have BM := hide hb
    clear ha hb A2 B2
    by_cases hlt : m < M.length
    · have HLT := hide hlt
      obtain ⟨bl, off, rfl, hbl, p0, p1⟩ := AM.out m hlt
      obtain ⟨hn1, hc1, hc2⟩ := HOK.out (M.getD m ln0) (ln_mem M m hlt)
      generalize M.getD m ln0 = x at *
      obtain ⟨c, n⟩ := x
      dsimp only at *
      have hu1 : IntKind.u64.wrap c = c := by rw [IntKind.wrap_u64]; omega
      have HN1 := hide (fun W => wnumber_nil c (by omega) (by omega) 2 W)
      have HN2 := hide (fun W => wsigned_nil n W)
      clear hn1 hc1 hc2 hbl
      have hal := (Below.refl wr.heap.size wr).alloc (Nat.le_refl _) (.cells #[.int .i64 c, .int .i64 n] 76)
      have X5 := hide (heap_new wr (.cells #[.int .i64 c, .int .i64 n] 76))
      have A5 := hide (AM.out.below hal)
      have B5 := hide (BM.out.trans (hal.mono BM.out.size))
      clear hal AM BM
      go_upto_region 5 with (fail)
      generalize wr.alloc (.cells #[.int .i64 c, .int .i64 n] 76) = w5 at *
      generalize wr.heap.size = q5 at *
      clear p0 p1
      refine wp_region_held_drew (S := (fun W => W.heap[q5]? = some (.cells #[.int .i64 c, .int .i64 n] 76 (0, 0)) ∧ LnIn W (some ⟨bl, off, none⟩) M ∧ Below w.heap.size w W)) (by kernel_rfl) (⟨X5.out, A5.out.below ((Below.refl _ _).drew), B5.out.drew⟩) (fun hHeld => ?_)
      refine wpAnyH_take (i := 0) (oi := { dst := some 23, op := Op.move (Operand.tmp 1), type := 48, pos := "books.go:183", after := #[], guard := none }) (v := ?_) rfl (by kernel_rfl) (by kernel_rfl) (by kernel_rfl) (fun _ _ _ h => h) (Or.inl ⟨by kernel_rfl, ?_⟩) hHeld ?_
      rotate_left
      · (intro w hSw; (try dsimp only at hSw); have e0 := cell_of_block hSw.1 0; have e1 := cell_of_block hSw.1 1; go_simp); try with_reducible rfl
      try simp only [Act.put, List.setIfInBounds_toArray, List.set_cons_zero, List.set_cons_succ]
      refine wpAnyH_take (i := 1) (oi := { dst := some 24, op := Op.fieldAddr 76 (Operand.tmp 5) 0, type := 0, pos := "books.go:183", after := #[], guard := none }) (v := ?_) rfl (by kernel_rfl) (by kernel_rfl) (by kernel_rfl) (fun _ _ _ h => h) (Or.inl ⟨by kernel_rfl, ?_⟩) hHeld ?_
      rotate_left
      · (intro w hSw; (try dsimp only at hSw); have e0 := cell_of_block hSw.1 0; have e1 := cell_of_block hSw.1 1; go_simp); try with_reducible rfl
      try simp only [Act.put, List.setIfInBounds_toArray, List.set_cons_zero, List.set_cons_succ]
      refine wpAnyH_take (i := 2) (oi := { dst := some 25, op := Op.load 3 (Operand.tmp 24), type := 3, pos := "books.go:183", after := #[{ on := 1, ground := Ground.data }], guard := none }) (v := ?_) rfl (by kernel_rfl) (by kernel_rfl) (by kernel_rfl) (fun _ _ _ h => h) (Or.inl ⟨by kernel_rfl, ?_⟩) hHeld ?_
      rotate_left
      · (intro w hSw; (try dsimp only at hSw); have e0 := cell_of_block hSw.1 0; have e1 := cell_of_block hSw.1 1; go_simp); try with_reducible rfl
      try simp only [Act.put, List.setIfInBounds_toArray, List.set_cons_zero, List.set_cons_succ]
      refine wpAnyH_take (i := 3) (oi := { dst := some 26, op := Op.convert 3 79 (Operand.tmp 25), type := 79, pos := "books.go:183", after := #[{ on := 2, ground := Ground.data }], guard := none }) (v := ?_) rfl (by kernel_rfl) (by kernel_rfl) (by kernel_rfl) (fun _ _ _ h => h) (Or.inl ⟨by kernel_rfl, ?_⟩) hHeld ?_
      rotate_left
      · (intro w hSw; (try dsimp only at hSw); have e0 := cell_of_block hSw.1 0; have e1 := cell_of_block hSw.1 1; go_simp); try with_reducible rfl
      try simp only [Act.put, List.setIfInBounds_toArray, List.set_cons_zero, List.set_cons_succ]
      refine wpAnyH_take (i := 5) (oi := { dst := some 28, op := Op.fieldAddr 76 (Operand.tmp 5) 1, type := 0, pos := "books.go:183", after := #[], guard := none }) (v := ?_) rfl (by kernel_rfl) (by kernel_rfl) (by kernel_rfl) (fun _ _ _ h => h) (Or.inl ⟨by kernel_rfl, ?_⟩) hHeld ?_
      rotate_left
      · (intro w hSw; (try dsimp only at hSw); have e0 := cell_of_block hSw.1 0; have e1 := cell_of_block hSw.1 1; go_simp); try with_reducible rfl
      try simp only [Act.put, List.setIfInBounds_toArray, List.set_cons_zero, List.set_cons_succ]
      refine wpAnyH_take (i := 6) (oi := { dst := some 29, op := Op.load 37 (Operand.tmp 28), type := 37, pos := "books.go:183", after := #[{ on := 5, ground := Ground.data }], guard := none }) (v := ?_) rfl (by kernel_rfl) (by kernel_rfl) (by kernel_rfl) (fun _ _ _ h => h) (Or.inl ⟨by kernel_rfl, ?_⟩) hHeld ?_
      rotate_left
      · (intro w hSw; (try dsimp only at hSw); have e0 := cell_of_block hSw.1 0; have e1 := cell_of_block hSw.1 1; go_simp); try with_reducible rfl
      try simp only [Act.put, List.setIfInBounds_toArray, List.set_cons_zero, List.set_cons_succ]
      refine wpAnyH_ready (rs := [4]) (by kernel_rfl) (by simp) ?_
      refine AllReadyH.cons (o := { dst := some 27, op := Op.call { callee := Callee.value (Operand.func 28), args := #[Operand.tmp 23, Operand.tmp 26, Operand.const (Value.int IntKind.i64 2)], argTypes := #[48, 79, 3] }, type := 48, pos := "books.go:183", after := #[{ on := 0, ground := Ground.data }, { on := 3, ground := Ground.data }], guard := none }) rfl (fun K hK => ?_) AllReadyH.nil
      have hOld := hide hHeld
      clear hHeld
      go_simp
      refine (HN1.out _).mono ?_
      rintro e v1 ⟨rfl, hbx⟩
      (try go_wp2_with fail)
      refine hK.out _ _ (⟨(hbx.block _ (heap_lt hOld.out.1)).trans hOld.out.1, hOld.out.2.1.below hbx, hOld.out.2.2.trans (hbx.mono hOld.out.2.2.size)⟩) (fun hHeld => ?_)
      clear hK K hOld
      try simp only [Act.put, List.setIfInBounds_toArray, List.set_cons_zero, List.set_cons_succ]
      refine wpAnyH_ready (rs := [7]) (by kernel_rfl) (by simp) ?_
      refine AllReadyH.cons (o := { dst := some 30, op := Op.call { callee := Callee.value (Operand.func 29), args := #[Operand.tmp 27, Operand.tmp 29], argTypes := #[48, 2] }, type := 48, pos := "books.go:183", after := #[{ on := 4, ground := Ground.data }, { on := 6, ground := Ground.data }, { on := 4, ground := Ground.chain }], guard := none }) rfl (fun K hK => ?_) AllReadyH.nil
      have hOld := hide hHeld
      clear hHeld
      go_simp
      refine (HN2.out _).mono ?_
      rintro e v2 ⟨rfl, hbx⟩
      (try go_wp2_with fail)
      refine hK.out _ _ (⟨(hbx.block _ (heap_lt hOld.out.1)).trans hOld.out.1, hOld.out.2.1.below hbx, hOld.out.2.2.trans (hbx.mono hOld.out.2.2.size)⟩) (fun hHeld => ?_)
      clear hK K hOld
      try simp only [Act.put, List.setIfInBounds_toArray, List.set_cons_zero, List.set_cons_succ]
      refine wpAnyH_done (by kernel_rfl) ?_ _
      have HELD := hide hHeld
      clear hHeld X5 A5 B5 HN1 HN2 hu1
      go_wp2_with fail
      go_roundw
      case rel => exact ⟨m + 1, HLT.out, by go_num, HELD.out.2.1, HELD.out.2.2⟩
      case measure => have := HLT.out; simp [Go.RowKit.intOf]; omega
    · obtain rfl : M.length = m := by omega
      go_wp2_with fail
      go_end0
      exact ⟨rfl, BM.out⟩
end Go.Proofs.Ytjnfmgbbhiklaaa
