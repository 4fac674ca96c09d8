/-
  Layer 21: Write; the document's Text.
-/
import Derived.Test.YtehjhldijhoeeaaChart8
import Derived.Test.YtehjhldijhoeeaaWF

namespace Go.Proofs.Ytehjhldijhoeeaa
set_option linter.unusedSimpArgs false
set_option linter.unusedVariables false
open Go.RowKit Go.WideShapes Go.ChangeShapes Go.ChangeAt Go.Deep
/-- an account's fields -/
def acF (x : AcM) : List Fld := [⟨0, 2, x.code, ⟨#[]⟩⟩, ⟨0, 1, x.kind, ⟨#[]⟩⟩, ⟨2, 0, 0, x.name⟩]
theorem acF_len (x : AcM) : (acF x).length = 3 := rfl
/-- a chart's fields -/
def chF (M : List AcM) : List Fld := [⟨0, 1, M.length, ⟨#[]⟩⟩] ++ M.flatMap acF
/-- those of the first m accounts -/
def chFk (M : List AcM) (m : Nat) : List Fld := [⟨0, 1, M.length, ⟨#[]⟩⟩] ++ (M.take m).flatMap acF
theorem chFk_zero (M : List AcM) : chFk M 0 = [⟨0, 1, M.length, ⟨#[]⟩⟩] := by simp [chFk]
theorem chFk_all (M : List AcM) : chFk M M.length = chF M := by unfold chFk chF; rw [List.take_length]
theorem chFk_next (M : List AcM) (m : Nat) (h : m < M.length) : chFk M (m + 1) = chFk M m ++ acF (M.getD m ac0) := by
  unfold chFk
  rw [take_at M m h, List.flatMap_append, ← List.append_assoc]
  simp
theorem flat_len3 : ∀ L : List AcM, (L.flatMap acF).length = L.length * 3 := by
  intro L
  induction L with
  | nil => rfl
  | cons x L ih => rw [List.flatMap_cons, List.length_append, ih, acF_len, List.length_cons]; omega
theorem chFk_len (M : List AcM) (m : Nat) (h : m ≤ M.length) (h64 : M.length ≤ 64) : (chFk M m).length ≤ 200 := by
  unfold chFk
  have : ((M.take m).flatMap acF).length = (M.take m).length * 3 := flat_len3 _
  rw [List.length_append, this, List.length_take]
  simp; omega
def RightA (M : List AcM) : Prop := ∀ x ∈ M, rightB x = true
theorem right_parts {x : AcM} (h : rightB x = true) : (1 ≤ x.code ∧ x.code ≤ 65535) ∧ (1 ≤ x.kind ∧ x.kind ≤ 5) ∧ 1 ≤ x.name.size ∧ x.name.size ≤ 24 := by
  unfold rightB at h
  rw [Bool.and_eq_true, decide_eq_true_eq] at h
  obtain ⟨-, h1, h2, h3, h4, h5, h6⟩ := h
  exact ⟨⟨h1, h2⟩, ⟨h3, h4⟩, h5, h6⟩
theorem addM_right {M : List AcM} {x : AcM} (h : RightA M) : RightA (addM M x) := by
  unfold addM
  split
  next he =>
    intro y hy
    rcases insA_mem.1 hy with rfl | hy
    · unfold addE at he
      by_cases hr : rightB y = false
      · rw [if_pos hr] at he; cases he
      · simpa using hr
    · exact h y hy
  · exact h
theorem wrFs_append (A B : List Fld) : wrFs (A ++ B) = B.foldl (fun z x => wrF z.1 z.2 x) (wrFs A) := by unfold wrFs; rw [List.foldl_append]
theorem wr_okN (l : List UInt8) (wd n : Int) (hf : fitsB n.toNat wd = true) : (wrF l false ⟨0, wd, n, ⟨#[]⟩⟩).2 = false := by
  show wrB false (fitsB n.toNat wd) = false
  rw [hf]; rfl
theorem fits_small (n w : Nat) (hw : 1 ≤ w ∧ w ≤ 8) (hn : n < 256 ^ w) : fitsB n (w : Int) = true := by
  unfold fitsB
  exact decide_eq_true ⟨by omega, by omega, by simpa using hn⟩
theorem acF_ok {x : AcM} (h : rightB x = true) (z : List UInt8 × Bool) (hz : z.2 = false) : ((acF x).foldl (fun z x => wrF z.1 z.2 x) z).2 = false := by
  obtain ⟨⟨c1, c2⟩, ⟨k1, k2⟩, n1, n2⟩ := right_parts h
  obtain ⟨l, b⟩ := z
  dsimp only at hz
  subst hz
  unfold acF
  simp only [List.foldl_cons, List.foldl_nil]
  have h1 : (wrF l false ⟨0, 2, x.code, ⟨#[]⟩⟩).2 = false := wr_okN _ _ _ (fits_small _ 2 (by decide) (by omega))
  generalize wrF l false ⟨0, 2, x.code, ⟨#[]⟩⟩ = z1 at *
  obtain ⟨l1, b1⟩ := z1
  dsimp only at h1 ⊢
  subst h1
  have h2 : (wrF l1 false ⟨0, 1, x.kind, ⟨#[]⟩⟩).2 = false := wr_okN _ _ _ (fits_small _ 1 (by decide) (by omega))
  generalize wrF l1 false ⟨0, 1, x.kind, ⟨#[]⟩⟩ = z2 at *
  obtain ⟨l2, b2⟩ := z2
  dsimp only at h2 ⊢
  subst h2
  show wrB false (decide (x.name.size ≤ 255)) = false
  rw [decide_eq_true (by omega)]; rfl
theorem chF_ok {M : List AcM} (h : RightA M) (h64 : M.length ≤ 64) : (wrFs (chF M)).2 = false := by
  unfold chF
  rw [wrFs_append]
  have h0 : (wrFs [⟨0, 1, M.length, ⟨#[]⟩⟩]).2 = false := wr_okN [] 1 M.length (fits_small _ 1 (by decide) (by omega))
  generalize wrFs [⟨0, 1, M.length, ⟨#[]⟩⟩] = z at *
  clear h64
  induction M generalizing z with
  | nil => exact h0
  | cons x M ih =>
    rw [List.flatMap_cons, List.foldl_append]
    exact ih (fun y hy => h y (by simp [hy])) _ (acF_ok (h x (by simp)) z h0)
theorem chF_good {M : List AcM} (h : RightA M) (h64 : M.length ≤ 64) : ∀ f ∈ chF M, FldGood f := by
  intro f hf
  unfold chF at hf
  rcases List.mem_append.1 hf with hf | hf
  · simp at hf; subst hf
    refine ⟨by dsimp only; decide, by dsimp only; decide, ⟨by dsimp only; omega, by dsimp only; omega⟩, by dsimp only; decide⟩
  · obtain ⟨x, hx, hf⟩ := List.mem_flatMap.1 hf
    obtain ⟨⟨c1, c2⟩, ⟨k1, k2⟩, n1, n2⟩ := right_parts (h x hx)
    unfold acF at hf
    simp at hf
    rcases hf with rfl | rfl | rfl
    · exact ⟨by dsimp only; decide, by dsimp only; decide, ⟨by dsimp only; omega, by dsimp only; omega⟩, by dsimp only; decide⟩
    · exact ⟨by dsimp only; decide, by dsimp only; decide, ⟨by dsimp only; omega, by dsimp only; omega⟩, by dsimp only; decide⟩
    · exact ⟨by dsimp only; decide, by dsimp only; decide, by dsimp only; decide, by dsimp only; omega⟩
set_option maxRecDepth 100000 in
set_option maxHeartbeats 1000000 in
theorem chwrite_any (p bm : Nat) (M : List AcM) (hr : RightA M) (q : Nat) (w0 w : World) (hC : ChartIs w0 p bm M) (hlow : Below w0.heap.size w0 w) (hW : WF w w0.heap.size q []) (hB : w0.heap.size ≤ q) :
    Calls Try.prog 15 #[.pointer (some ⟨p, 0, none⟩), .pointer (some ⟨q, 0, none⟩)] w fun e w' => e = .returned (.tuple #[]) ∧ WF w' w0.heap.size q (chF M) ∧ Below w0.heap.size w0 w' := by
  have hM64 := hC.few
  have C0 := hide hC
  have HR := hide hr
  have F0 := hide hW
  have B0 := hide hlow
  have HB := hide hB
  have HOK := hide hC.ok
  have C1 := hide (show ChartIs w p bm M from hC.kept (hlow.block _ hC.lt.2) (hlow.block _ hC.lt.1))
  have e0 := cell_of_block C1.out.head 0
  obtain ⟨f, hM, hF⟩ := C1.out.map
  have HM := hide hM
  clear hC hr hW hlow hB hM hF
  have hu : IntKind.u64.wrap (M.length : Int) = (M.length : Int) := by rw [IntKind.wrap_u64]; omega
  have HN0 := hide (fun W h => wf_number w0.heap.size q [] (by decide) (M.length : Int) (by omega) (by omega) 1 W h HB.out)
  rw [List.nil_append] at HN0
  unfold WFIs at HN0
  go_enter Try.func15, Try.ntmps15
  go_wp2_with (at_len; refine wpList_mapLen w rfl _ 67 rfl 3 31 Try.underlying67 bm M.length M.length f rfl HM.out ?_)
  refine (HN0.out _ F0.out).mono ?_
  rintro e w1 ⟨rfl, hf, hb, -⟩
  have F1 := hide hf
  have B1 := hide (B0.out.trans (hb.mono (Nat.le_refl _)))
  have C2 := hide (show ChartIs w1 p bm M from C0.out.kept (B1.out.block _ C0.out.lt.2) (B1.out.block _ C0.out.lt.1))
  clear hf hb C1 e0 HM HN0 F0 B0 hu
  go_wp2_with fail
  refine (chlist_any p bm M _ C2.out).mono ?_
  rintro e w2 ⟨la, lc, rfl, ho, hb⟩
  have O2 := hide ho
  have F2 := hide (F1.out.below hb)
  have B2 := hide (B1.out.trans (hb.mono B1.out.size))
  have HKB := hide (show w0.heap.size ≤ w1.heap.size from B1.out.size)
  have HAT := hide (fun m (h : m < M.length) => chFk_next M m h)
  have HLL := hide (fun m (h : m ≤ M.length) => chFk_len M m h hM64)
  clear ho hb C2 F1 B1
  rw [← chFk_zero M] at F2
  go_wp2_with fail
  go_loopw [19] (fun i W => ∃ m : Nat, m ≤ M.length ∧ i = .int .i64 m ∧ W.ownsRow w1.heap.size 31 3 (.slice la M.length lc) M.length (M.flatMap acL) ∧ WF W w0.heap.size q (chFk M m) ∧ Below w0.heap.size w0 W) (fun i _ => M.length - (Go.RowKit.intOf i).toNat)
  case atStart => exact ⟨0, by omega, rfl, O2.out, F2.out, B2.out⟩
  case round =>
    obtain ⟨m, hm, rfl, ho, hf, hb⟩ := hrel
    have OM := hide ho
    have FM := hide hf
    have BM := hide hb
    clear ho hf hb O2 F2 B2
    by_cases hlt : m < M.length
    · have HLT := hide hlt
      obtain ⟨bl, rfl, hbl, p0, p1, p2⟩ := AcsIn.of_owns OM.out m hlt
      have hrx := right_parts (HR.out (M.getD m ac0) (by simp [List.getD, hlt]))
      have hox := HOK.out (M.getD m ac0) (by simp [List.getD, hlt])
      have HNX := hide (HAT.out m hlt)
      have hfl := HLL.out m hm
      generalize hLk : chFk M m = Lk at *
      have HLK := hide hLk
      clear hLk
      generalize M.getD m ac0 = x at *
      obtain ⟨c, k, s⟩ := x
      dsimp only at *
      obtain ⟨⟨c1, c2⟩, ⟨k1, k2⟩, n1, n2⟩ := hrx
      have hu1 : IntKind.u64.wrap c = c := by rw [IntKind.wrap_u64]; omega
      have hu2 : IntKind.u64.wrap k = k := by rw [IntKind.wrap_u64]; omega
      have HN1 := hide (fun W h => wf_number w0.heap.size q Lk (by omega) c (by omega) (by omega) 2 W h HB.out)
      have HN2 := hide (fun W h => wf_number w0.heap.size q (Lk ++ [⟨0, 2, c, ⟨#[]⟩⟩]) (by rw [List.length_append]; simp; omega) k (by omega) (by omega) 1 W h HB.out)
      have HN3 := hide (fun W h => wf_text w0.heap.size q ((Lk ++ [⟨0, 2, c, ⟨#[]⟩⟩]) ++ [⟨0, 1, k, ⟨#[]⟩⟩]) (by rw [List.length_append, List.length_append]; simp; omega) s (by omega) W h HB.out)
      unfold WFIs at HN1 HN2 HN3
      have HRX := hide (And.intro c1 (And.intro c2 (And.intro k1 k2)))
      clear c1 c2 k1 k2 n1 n2 hox hfl hbl
      have hal := (Below.refl wr.heap.size wr).alloc (Nat.le_refl _) (.cells #[.int .i64 c, .int .u8 k, .string s] 31)
      have X5 := hide (heap_new wr (.cells #[.int .i64 c, .int .u8 k, .string s] 31))
      have O5 := hide (owns_below OM.out hal)
      have F5 := hide (FM.out.below hal)
      have B5 := hide (BM.out.trans (hal.mono BM.out.size))
      clear hal OM FM BM
      go_upto_region 5 with (fail)
      generalize wr.alloc (.cells #[.int .i64 c, .int .u8 k, .string s] 31) = w5 at *
      generalize wr.heap.size = q5 at *
      clear p0 p1 p2
      have X5 := hide (show w5.drew.heap[q5]? = some (.cells #[.int .i64 c, .int .u8 k, .string s] 31 (0, 0)) from X5.out)
      refine wp_region_held_drew (S := (fun W => W.heap[q5]? = some (.cells #[.int .i64 c, .int .u8 k, .string s] 31 (0, 0)))) (by kernel_rfl) (X5.out) (fun hHeld => ?_)
      refine wpAnyH_take (i := 0) (oi := { dst := some 23, op := Op.move (Operand.tmp 1), type := 44, pos := "chart.go:115", after := #[], guard := none }) (v := ?_) rfl (by kernel_rfl) (by kernel_rfl) (by kernel_rfl) (fun _ _ _ h => h) (Or.inl ⟨by kernel_rfl, ?_⟩) hHeld ?_
      rotate_left
      · (intro w hSw; (try dsimp only at hSw); have e0 : w.cell? ⟨q5, 0, none⟩ = some (.int .i64 c) := cell_of_block hSw 0; have e1 : w.cell? ⟨q5, 1, none⟩ = some (.int .u8 k) := cell_of_block hSw 1; have e2 : w.cell? ⟨q5, 2, none⟩ = some (.string s) := cell_of_block hSw 2; go_simp); try with_reducible rfl
      try simp only [Act.put, List.setIfInBounds_toArray, List.set_cons_zero, List.set_cons_succ]
      refine wpAnyH_take (i := 1) (oi := { dst := some 24, op := Op.fieldAddr 31 (Operand.tmp 5) 0, type := 0, pos := "chart.go:115", after := #[], guard := none }) (v := ?_) rfl (by kernel_rfl) (by kernel_rfl) (by kernel_rfl) (fun _ _ _ h => h) (Or.inl ⟨by kernel_rfl, ?_⟩) hHeld ?_
      rotate_left
      · (intro w hSw; (try dsimp only at hSw); have e0 : w.cell? ⟨q5, 0, none⟩ = some (.int .i64 c) := cell_of_block hSw 0; have e1 : w.cell? ⟨q5, 1, none⟩ = some (.int .u8 k) := cell_of_block hSw 1; have e2 : w.cell? ⟨q5, 2, none⟩ = some (.string s) := cell_of_block hSw 2; go_simp); try with_reducible rfl
      try simp only [Act.put, List.setIfInBounds_toArray, List.set_cons_zero, List.set_cons_succ]
      refine wpAnyH_take (i := 2) (oi := { dst := some 25, op := Op.load 3 (Operand.tmp 24), type := 3, pos := "chart.go:115", after := #[{ on := 1, ground := Ground.data }], guard := none }) (v := ?_) rfl (by kernel_rfl) (by kernel_rfl) (by kernel_rfl) (fun _ _ _ h => h) (Or.inl ⟨by kernel_rfl, ?_⟩) hHeld ?_
      rotate_left
      · (intro w hSw; (try dsimp only at hSw); have e0 : w.cell? ⟨q5, 0, none⟩ = some (.int .i64 c) := cell_of_block hSw 0; have e1 : w.cell? ⟨q5, 1, none⟩ = some (.int .u8 k) := cell_of_block hSw 1; have e2 : w.cell? ⟨q5, 2, none⟩ = some (.string s) := cell_of_block hSw 2; go_simp); try with_reducible rfl
      try simp only [Act.put, List.setIfInBounds_toArray, List.set_cons_zero, List.set_cons_succ]
      refine wpAnyH_take (i := 3) (oi := { dst := some 26, op := Op.convert 3 72 (Operand.tmp 25), type := 72, pos := "chart.go:115", after := #[{ on := 2, ground := Ground.data }], guard := none }) (v := ?_) rfl (by kernel_rfl) (by kernel_rfl) (by kernel_rfl) (fun _ _ _ h => h) (Or.inl ⟨by kernel_rfl, ?_⟩) hHeld ?_
      rotate_left
      · (intro w hSw; (try dsimp only at hSw); have e0 : w.cell? ⟨q5, 0, none⟩ = some (.int .i64 c) := cell_of_block hSw 0; have e1 : w.cell? ⟨q5, 1, none⟩ = some (.int .u8 k) := cell_of_block hSw 1; have e2 : w.cell? ⟨q5, 2, none⟩ = some (.string s) := cell_of_block hSw 2; go_simp); try with_reducible rfl
      try simp only [Act.put, List.setIfInBounds_toArray, List.set_cons_zero, List.set_cons_succ]
      refine wpAnyH_take (i := 5) (oi := { dst := some 28, op := Op.fieldAddr 31 (Operand.tmp 5) 1, type := 0, pos := "chart.go:115", after := #[], guard := none }) (v := ?_) rfl (by kernel_rfl) (by kernel_rfl) (by kernel_rfl) (fun _ _ _ h => h) (Or.inl ⟨by kernel_rfl, ?_⟩) hHeld ?_
      rotate_left
      · (intro w hSw; (try dsimp only at hSw); have e0 : w.cell? ⟨q5, 0, none⟩ = some (.int .i64 c) := cell_of_block hSw 0; have e1 : w.cell? ⟨q5, 1, none⟩ = some (.int .u8 k) := cell_of_block hSw 1; have e2 : w.cell? ⟨q5, 2, none⟩ = some (.string s) := cell_of_block hSw 2; go_simp); try with_reducible rfl
      try simp only [Act.put, List.setIfInBounds_toArray, List.set_cons_zero, List.set_cons_succ]
      refine wpAnyH_take (i := 6) (oi := { dst := some 29, op := Op.load 29 (Operand.tmp 28), type := 29, pos := "chart.go:115", after := #[{ on := 5, ground := Ground.data }], guard := none }) (v := ?_) rfl (by kernel_rfl) (by kernel_rfl) (by kernel_rfl) (fun _ _ _ h => h) (Or.inl ⟨by kernel_rfl, ?_⟩) hHeld ?_
      rotate_left
      · (intro w hSw; (try dsimp only at hSw); have e0 : w.cell? ⟨q5, 0, none⟩ = some (.int .i64 c) := cell_of_block hSw 0; have e1 : w.cell? ⟨q5, 1, none⟩ = some (.int .u8 k) := cell_of_block hSw 1; have e2 : w.cell? ⟨q5, 2, none⟩ = some (.string s) := cell_of_block hSw 2; go_simp); try with_reducible rfl
      try simp only [Act.put, List.setIfInBounds_toArray, List.set_cons_zero, List.set_cons_succ]
      refine wpAnyH_take (i := 7) (oi := { dst := some 30, op := Op.convert 29 72 (Operand.tmp 29), type := 72, pos := "chart.go:115", after := #[{ on := 6, ground := Ground.data }], guard := none }) (v := ?_) rfl (by kernel_rfl) (by kernel_rfl) (by kernel_rfl) (fun _ _ _ h => h) (Or.inl ⟨by kernel_rfl, ?_⟩) hHeld ?_
      rotate_left
      · (intro w hSw; (try dsimp only at hSw); have e0 : w.cell? ⟨q5, 0, none⟩ = some (.int .i64 c) := cell_of_block hSw 0; have e1 : w.cell? ⟨q5, 1, none⟩ = some (.int .u8 k) := cell_of_block hSw 1; have e2 : w.cell? ⟨q5, 2, none⟩ = some (.string s) := cell_of_block hSw 2; go_simp); try with_reducible rfl
      try simp only [Act.put, List.setIfInBounds_toArray, List.set_cons_zero, List.set_cons_succ]
      refine wpAnyH_take (i := 9) (oi := { dst := some 32, op := Op.fieldAddr 31 (Operand.tmp 5) 2, type := 0, pos := "chart.go:115", after := #[], guard := none }) (v := ?_) rfl (by kernel_rfl) (by kernel_rfl) (by kernel_rfl) (fun _ _ _ h => h) (Or.inl ⟨by kernel_rfl, ?_⟩) hHeld ?_
      rotate_left
      · (intro w hSw; (try dsimp only at hSw); have e0 : w.cell? ⟨q5, 0, none⟩ = some (.int .i64 c) := cell_of_block hSw 0; have e1 : w.cell? ⟨q5, 1, none⟩ = some (.int .u8 k) := cell_of_block hSw 1; have e2 : w.cell? ⟨q5, 2, none⟩ = some (.string s) := cell_of_block hSw 2; go_simp); try with_reducible rfl
      try simp only [Act.put, List.setIfInBounds_toArray, List.set_cons_zero, List.set_cons_succ]
      refine wpAnyH_take (i := 10) (oi := { dst := some 33, op := Op.load 9 (Operand.tmp 32), type := 9, pos := "chart.go:115", after := #[{ on := 9, ground := Ground.data }], guard := none }) (v := ?_) rfl (by kernel_rfl) (by kernel_rfl) (by kernel_rfl) (fun _ _ _ h => h) (Or.inl ⟨by kernel_rfl, ?_⟩) hHeld ?_
      rotate_left
      · (intro w hSw; (try dsimp only at hSw); have e0 : w.cell? ⟨q5, 0, none⟩ = some (.int .i64 c) := cell_of_block hSw 0; have e1 : w.cell? ⟨q5, 1, none⟩ = some (.int .u8 k) := cell_of_block hSw 1; have e2 : w.cell? ⟨q5, 2, none⟩ = some (.string s) := cell_of_block hSw 2; go_simp); try with_reducible rfl
      try simp only [Act.put, List.setIfInBounds_toArray, List.set_cons_zero, List.set_cons_succ]
      refine wpAnyH_ready (rs := [4]) (by kernel_rfl) (by simp) ?_
      refine AllReadyH.cons (o := { dst := some 27, op := Op.call { callee := Callee.value (Operand.func 26), args := #[Operand.tmp 23, Operand.tmp 26, Operand.const (Value.int IntKind.i64 2)], argTypes := #[44, 72, 3] }, type := 44, pos := "chart.go:115", after := #[{ on := 0, ground := Ground.data }, { on := 3, ground := Ground.data }], guard := none }) rfl (fun K hK => ?_) AllReadyH.nil
      have hOld := hide hHeld
      clear hHeld
      go_simp
      refine (HN1.out _ F5.out.drew).mono ?_
      rintro e v1 ⟨rfl, hw1, hb1, hk1⟩
      have F6 := hide hw1
      (try go_wp2_with fail)
      refine hK.out _ _ (hk1.cells hOld.out (by decide)) (fun hHeld => ?_)
      clear hK K hOld
      try simp only [Act.put, List.setIfInBounds_toArray, List.set_cons_zero, List.set_cons_succ]
      refine wpAnyH_ready (rs := [8]) (by kernel_rfl) (by simp) ?_
      refine AllReadyH.cons (o := { dst := some 31, op := Op.call { callee := Callee.value (Operand.func 26), args := #[Operand.tmp 27, Operand.tmp 30, Operand.const (Value.int IntKind.i64 1)], argTypes := #[44, 72, 3] }, type := 44, pos := "chart.go:115", after := #[{ on := 4, ground := Ground.data }, { on := 7, ground := Ground.data }, { on := 4, ground := Ground.chain }], guard := none }) rfl (fun K hK => ?_) AllReadyH.nil
      have hOld := hide hHeld
      clear hHeld
      go_simp
      refine (HN2.out _ F6.out).mono ?_
      rintro e v2 ⟨rfl, hw2, hb2, hk2⟩
      have F7 := hide hw2
      (try go_wp2_with fail)
      refine hK.out _ _ (hk2.cells hOld.out (by decide)) (fun hHeld => ?_)
      clear hK K hOld
      try simp only [Act.put, List.setIfInBounds_toArray, List.set_cons_zero, List.set_cons_succ]
      refine wpAnyH_ready (rs := [11]) (by kernel_rfl) (by simp) ?_
      refine AllReadyH.cons (o := { dst := some 34, op := Op.call { callee := Callee.value (Operand.func 27), args := #[Operand.tmp 31, Operand.tmp 33], argTypes := #[44, 9] }, type := 44, pos := "chart.go:115", after := #[{ on := 8, ground := Ground.data }, { on := 10, ground := Ground.data }, { on := 8, ground := Ground.chain }], guard := none }) rfl (fun K hK => ?_) AllReadyH.nil
      have hOld := hide hHeld
      clear hHeld
      go_simp
      refine (HN3.out _ F7.out).mono ?_
      rintro e v3 ⟨rfl, hw3, hb3, hk3⟩
      have F8 := hide hw3
      (try go_wp2_with fail)
      refine hK.out _ _ (hk3.cells hOld.out (by decide)) (fun hHeld => ?_)
      clear hK K hOld
      try simp only [Act.put, List.setIfInBounds_toArray, List.set_cons_zero, List.set_cons_succ]
      refine wpAnyH_done (by kernel_rfl) ?_ _
      clear hHeld
      have O8 := hide (hk3.owns (hk2.owns (hk1.owns (show w5.drew.ownsRow _ _ _ _ _ _ from O5.out) (by decide)) (by decide)) (by decide))
      have B8 := hide (((B5.out.drew.trans (hb1.mono (Nat.le_refl _))).trans (hb2.mono (Nat.le_refl _))).trans (hb3.mono (Nat.le_refl _)))
      have HNX2 := hide (show chFk M (m + 1) = ((Lk ++ [⟨0, 2, c, ⟨#[]⟩⟩]) ++ [⟨0, 1, k, ⟨#[]⟩⟩]) ++ [⟨2, 0, 0, s⟩] from by rw [HNX.out]; simp [acF])
      clear hw1 hb1 hk1 hw2 hb2 hk2 hw3 hb3 hk3 F5 F6 F7 X5 O5 B5 HN1 HN2 HN3 hu1 hu2 HNX
      go_wp2_with fail
      go_roundw
      case rel => exact ⟨m + 1, HLT.out, by go_num, O8.out, by rw [HNX2.out]; exact F8.out, B8.out⟩
      case measure => have := HLT.out; simp [Go.RowKit.intOf]; omega
    · obtain rfl : M.length = m := by omega
      rw [chFk_all] at FM
      go_wp2_with fail
      go_end0
      exact ⟨rfl, FM.out, BM.out⟩
end Go.Proofs.Ytehjhldijhoeeaa
