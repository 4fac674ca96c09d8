/-
  Layer 5, the program's calls, seventh part: Program.
-/
import Derived.Test.YthippbckjldijaaNand6
namespace Go.Proofs.Ythippbckjldijaa
set_option linter.unusedSimpArgs false
set_option linter.unusedVariables false
open Go.RowKit Go.WideShapes Go.ChangeShapes Go.ChangeAt Go.Deep

theorem put_put (S : ChipM) (k : Nat) (b c : BlkM) : (S.put k b).put k c = S.put k c := by unfold ChipM.put; simp [List.set_set]
theorem NandAt.setPage2 {w : World} {p q B : Nat} {G : Nat → Nat} {S : ChipM} (h : NandAt w p q B G S) (k : Nat) (hk : k < S.L.length) (i : Nat) (hi : i < S.pgs) (x : Pg) :
    NandAt ((w.setCell ⟨G k, i * 2, none⟩ (.string x.1)).setCell ⟨G k, i * 2 + 1, none⟩ (.string x.2)) p q B G (S.put k { S.blk k with pages := (S.blk k).pages.set i x }) := by
  have hil : i < (S.blk k).pages.length := by rw [h.len k hk]; exact hi
  have h1 := h.setPage k hk i hi 0 (by decide) (.string x.1) (x.1, ((S.blk k).pages.getD i pg0).2) rfl
  have hb := blk_put_self S k { S.blk k with pages := (S.blk k).pages.set i (x.1, ((S.blk k).pages.getD i pg0).2) } hk
  have h2 := h1.setPage k (by rw [put_length]; exact hk) i hi 1 (by decide) (.string x.2) x (by
    rw [hb]
    show _ = (pgC i (((S.blk k).pages.set i (x.1, ((S.blk k).pages.getD i pg0).2)).getD i pg0)).set 1 _
    rw [getD_set_self _ _ _ _ hil]
    rfl)
  rw [hb, put_put] at h2
  have he : ((S.blk k).pages.set i (x.1, ((S.blk k).pages.getD i pg0).2)).set i x = (S.blk k).pages.set i x := by simp [List.set_set]
  show NandAt _ p q B G (S.put k { S.blk k with pages := (S.blk k).pages.set i x })
  rw [← he]
  exact h2
theorem NandAt.turnPage2 {w : World} {p q B : Nat} {G : Nat → Nat} {S : ChipM} (h : NandAt w p q B G S) (k : Nat) (hk : k < S.L.length) (i : Nat) (hi : i < S.pgs) (u v : ByteArray) :
    Turn B w ((w.setCell ⟨G k, i * 2, none⟩ (.string u)).setCell ⟨G k, i * 2 + 1, none⟩ (.string v)) := by
  have h1 := h.setPage k hk i hi 0 (by decide) (.string u) (u, ((S.blk k).pages.getD i pg0).2) rfl
  exact (h.turnPage k hk (i * 2) (.string u)).trans (h1.turnPage k (by rw [put_length]; exact hk) (i * 2 + 1) (.string v))
/-- numbers stay small -/
structure NandOk (S : ChipM) : Prop where
  size : S.size ≤ 1024
  torn : S.torn.size ≤ 1000000
  progs : 0 ≤ S.progs ∧ S.progs ≤ 1000000
  eras : 0 ≤ S.eras ∧ S.eras ≤ 1000000
  sins : 0 ≤ S.sins ∧ S.sins ≤ 1000000
  fuse : 0 ≤ S.fuse ∧ S.fuse ≤ 9223372036854775807
def zeroB : ByteArray := ⟨#[0]⟩
/-- what Program turns, where nothing stands against it -/
def progS (S : ChipM) (k i : Nat) (d e : ByteArray) : ChipM :=
  let S2 := cutS (progsS (S.put k { S.blk k with next := (i : Int) + 1 }))
  if S.fuse = 1 then S2.put k { S2.blk k with pages := (S2.blk k).pages.set i (tornP S2) }
  else if (S.blk k).weak = true then S2.put k { S2.blk k with pages := (S2.blk k).pages.set i (filledP S.size zeroB), failed := true }
  else S2.put k { S2.blk k with pages := (S2.blk k).pages.set i (d, e) }
def progE (S : ChipM) (k : Nat) : Int := if S.fuse = 1 then 9 else if (S.blk k).weak = true then 10 else 0
def progT (S : ChipM) (b i : Int) (d e : ByteArray) : ChipM × Int :=
  if askE S b i ≠ 0 then (S, askE S b i) else if d.size ≠ S.size ∨ e.size ≠ 32 then (S, 2)
  else if sinE (S.blk b.toNat) (decide (i ≠ (S.blk b.toNat).next)) ≠ 0 then (sinS S b.toNat (decide (i ≠ (S.blk b.toNat).next)), sinE (S.blk b.toNat) (decide (i ≠ (S.blk b.toNat).next)))
  else (progS S b.toNat i.toNat d e, progE S b.toNat)
theorem cut_blk (S : ChipM) (k : Nat) : (cutS S).blk k = S.blk k := by unfold cutS; split <;> rfl
theorem cut_len (S : ChipM) : (cutS S).L = S.L := by unfold cutS; split <;> rfl
theorem cut_pgs (S : ChipM) : (cutS S).pgs = S.pgs := by unfold cutS; split <;> rfl
theorem cut_size (S : ChipM) : (cutS S).size = S.size := by unfold cutS; split <;> rfl
theorem cut_torn (S : ChipM) : (cutS S).torn = S.torn := by unfold cutS; split <;> rfl
set_option maxRecDepth 100000 in
set_option maxHeartbeats 2000000 in
theorem program_go (p q B : Nat) (G : Nat → Nat) (S : ChipM) (hS : NandOk S) (k i : Nat) (d e : ByteArray) (w : World) (h : NandAt w p q B G S) (ha : askE S (k : Int) (i : Int) = 0) (hd : d.size = S.size) (he : e.size = 32) (hf : (S.blk k).failed = false) (hm : (S.blk k).mill = false) (hnx : (S.blk k).next = (i : Int)) :
    Calls Try.prog 14 #[.pointer (some ⟨p, 0, none⟩), .int .i64 (k : Int), .int .i64 (i : Int), .string d, .string e] w (NandIs p q B G (progS S k i d e) (.int .i64 (progE S k)) w) := by
  obtain ⟨ho, -, hk', -, hi'⟩ := askE_in ha
  have hk : k < S.L.length := by omega
  have hi : i < S.pgs := by omega
  have hp64 := h.few.2
  have HASK := hide (ask_any p q B G S (k : Int) (i : Int) w h)
  rw [ha] at HASK
  have HAT := hide (at_yes p q B G S k hk w h)
  have HSIN := hide (sin_any p q B G S k hk false hS.sins.1 (by have := hS.sins.2; omega) w h)
  have hE : sinE (S.blk k) false = 0 := by unfold sinE; rw [hf, hm]; simp
  rw [show sinS S k false = S by unfold sinS; rw [if_pos hE], hE] at HSIN
  have c2 : w.cell? ⟨p, 2, none⟩ = some (.int .i64 (S.size : Int)) := h.cell 2
  have d1 : w.cell? ⟨q, k * 6 + 1, none⟩ = some (.int .i64 (i : Int)) := by rw [← hnx]; exact h.slot k hk 1 (by decide)
  have hdI : (d.size : Int) = (S.size : Int) := by rw [hd]
  have heI : (e.size : Int) = 32 := by rw [he]; rfl
  have HH := hide h
  have HOK := hide hS
  clear h ha hS
  go_enter Try.func14, Try.ntmps14
  go_wp2_with fail
  refine HASK.out.mono ?_
  rintro e0 w1 ⟨rfl, rfl⟩
  go_wp2_with fail
  refine HAT.out.mono ?_
  rintro e0 w1 ⟨rfl, rfl⟩
  go_wp2_with fail
  refine HSIN.out.mono ?_
  rintro e0 w2 ⟨rfl, hn, ht⟩
  have N2 := hide hn
  have T2 := hide ht
  clear hn ht HASK HAT HSIN c2 d1
  have d0 : w2.cell? ⟨q, k * 6, none⟩ = some (.slice (some ⟨G k, 0, none⟩) S.pgs S.pgs) := by
    have := N2.out.slot k hk 0 (by decide)
    rw [Nat.add_zero] at this
    rw [this, ← N2.out.len k hk]; rfl
  have d1 : w2.cell? ⟨q, k * 6 + 1, none⟩ = some (.int .i64 (i : Int)) := by rw [← hnx]; exact N2.out.slot k hk 1 (by decide)
  have f1 := N2.out.row.free (k * 6 + 1)
  have N3 := hide (N2.out.setBlk k hk 1 (by decide) (.int .i64 ((i : Int) + 1)) { S.blk k with next := (i : Int) + 1 } rfl rfl)
  have T3 := hide (T2.out.trans (N2.out.turnBlk (k * 6 + 1) (.int .i64 ((i : Int) + 1))))
  go_wp2_with fail
  clear d0 d1 f1 N2 T2
  generalize w2.setCell ⟨q, k * 6 + 1, none⟩ (.int .i64 ((i : Int) + 1)) = w3 at *
  have HC := hide (cut_progs p q B G (S.put k { S.blk k with next := (i : Int) + 1 }) HOK.out.progs.1 (by have := HOK.out.progs.2; show S.progs ≤ _; omega) HOK.out.fuse.1 HOK.out.fuse.2 w3 N3.out)
  obtain ⟨S3, hS3⟩ : ∃ S3, S3 = cutS (progsS (S.put k { S.blk k with next := (i : Int) + 1 })) := ⟨_, rfl⟩
  have hb3 : S3.blk k = { S.blk k with next := (i : Int) + 1 } := by
    rw [hS3, cut_blk]
    exact blk_put_self S k _ hk
  have hl3 : S3.L.length = S.L.length := by rw [hS3, cut_len]; exact put_length S k _
  have hg3 : S3.pgs = S.pgs := by rw [hS3, cut_pgs]; rfl
  have hz3 : S3.size = S.size := by rw [hS3, cut_size]; rfl
  have ht3 : S3.torn = S.torn := by rw [hS3, cut_torn]; rfl
  have HPS := hide (show progS S k i d e = if S.fuse = 1 then S3.put k { S3.blk k with pages := (S3.blk k).pages.set i (tornP S3) }
    else if (S.blk k).weak = true then S3.put k { S3.blk k with pages := (S3.blk k).pages.set i (filledP S.size zeroB), failed := true }
    else S3.put k { S3.blk k with pages := (S3.blk k).pages.set i (d, e) } by rw [hS3]; rfl)
  have HPE := hide (show progE S k = if S.fuse = 1 then 9 else if (S.blk k).weak = true then 10 else 0 from rfl)
  rw [show cutS (progsS (S.put k { S.blk k with next := (i : Int) + 1 })) = S3 from hS3.symm] at HC
  rw [show (S.put k { S.blk k with next := (i : Int) + 1 }).fuse = S.fuse from rfl] at HC
  have HB3 := hide hb3
  have HWK := hide (show (S3.blk k).weak = (S.blk k).weak by rw [hb3])
  have hk3 : k < S3.L.length := by omega
  have hi3 : i < S3.pgs := by omega
  clear hS3 hb3
  by_cases hfz : S.fuse = 1
  · rw [decide_eq_true hfz] at HC
    refine HC.out.mono ?_
    rintro e0 w4 ⟨rfl, hn, ht⟩
    have N4 := hide hn
    have T4 := hide (T3.out.trans ht)
    clear hn ht HC N3 T3
    go_wp2_with fail
    refine (torn_any p q B G S3 (by have := HOK.out.size; omega) (by rw [ht3]; exact HOK.out.torn) w4 N4.out).mono ?_
    rintro e0 w5 ⟨rfl, hb⟩
    have N5 := hide (N4.out.below hb)
    have T5 := hide (T4.out.trans (Turn.of_below hb N4.out.size))
    clear hb N4 T4
    have e0 := N5.out.leaf k hk3 i hi3 0 (by decide)
    have e1 := N5.out.leaf k hk3 i hi3 1 (by decide)
    simp only [pgC, List.getElem?_cons_zero, List.getElem?_cons_succ, Nat.add_zero] at e0 e1
    have g0 := (N5.out.page k hk3).free (i * 2)
    have g1 := (N5.out.page k hk3).free (i * 2 + 1)
    have N6 := hide (N5.out.setPage2 k hk3 i hi3 (tornP S3))
    have T6 := hide (T5.out.trans (N5.out.turnPage2 k hk3 i hi3 (tornP S3).1 (tornP S3).2))
    go_wp2_with fail
    go_ret
    refine ⟨ret_int (by rw [HPE.out, if_pos hfz]), ?_, T6.out⟩
    rw [HPS.out, if_pos hfz]
    exact N6.out
  · rw [decide_eq_false hfz] at HC
    refine HC.out.mono ?_
    rintro e0 w4 ⟨rfl, hn, ht⟩
    have N4 := hide hn
    have T4 := hide (T3.out.trans ht)
    clear hn ht HC N3 T3
    have d4 : w4.cell? ⟨q, k * 6 + 4, none⟩ = some (.bool (S.blk k).weak) := by rw [← HWK.out]; exact N4.out.slot k hk3 4 (by decide)
    have e0 := N4.out.leaf k hk3 i hi3 0 (by decide)
    have e1 := N4.out.leaf k hk3 i hi3 1 (by decide)
    simp only [pgC, List.getElem?_cons_zero, List.getElem?_cons_succ, Nat.add_zero] at e0 e1
    have g0 := (N4.out.page k hk3).free (i * 2)
    have g1 := (N4.out.page k hk3).free (i * 2 + 1)
    cases hwk : (S.blk k).weak with
    | true =>
      rw [hwk] at d4
      have c0 : w4.cell? ⟨p, 0, none⟩ = some (.int .i64 (S3.L.length : Int)) := N4.out.cell 0
      have c1 : w4.cell? ⟨p, 1, none⟩ = some (.int .i64 (S3.pgs : Int)) := N4.out.cell 1
      have c2 : w4.cell? ⟨p, 2, none⟩ = some (.int .i64 (S3.size : Int)) := N4.out.cell 2
      have HF := hide (fun W => filled_any (S.L.length : Int) (S.pgs : Int) S.size HOK.out.size zeroB (by decide) (by decide) W)
      rw [show zeroB = ⟨#[0]⟩ from rfl] at HF
      go_wp2_with fail
      refine (HF.out _).mono ?_
      rintro e0 w5 ⟨rfl, hb⟩
      have N5 := hide (N4.out.below hb)
      have T5 := hide (T4.out.trans (Turn.of_below hb N4.out.size))
      clear hb N4 T4 d4 e0 e1 g0 g1 c0 c1 c2
      go_upto_region 17 with (fail)
      have HZ := hide (show filledP S.size zeroB = filledP S.size ⟨#[0]⟩ from rfl)
      generalize filledP S.size ⟨#[0]⟩ = z at *
      obtain ⟨z1, z2⟩ := z
      dsimp only at *
      obtain ⟨ob, hob⟩ : ∃ ob, ob = Obj.cells #[.string z1, .string z2] 70 := ⟨_, rfl⟩
      rw [← hob]
      have hal := (Below.refl w5.heap.size w5).alloc (Nat.le_refl _) ob
      have NA := hide (N5.out.below hal).drew
      have TA := hide ((T5.out.trans (Turn.of_below hal N5.out.size)).drew)
      have XB0 := hide (show (w5.alloc ob).drew.heap[w5.heap.size]? = some ob from heap_new w5 ob)
      have HGX := hide (show G k ≠ w5.heap.size from Nat.ne_of_lt (N5.out.page k hk3).lt)
      have HQX := hide (show q ≠ w5.heap.size from Nat.ne_of_lt N5.out.row.lt)
      clear hal N5 T5
      generalize w5.alloc ob = wa at *
      generalize w5.heap.size = xb at *
      rw [hob] at XB0
      clear hob
      have hgq : ¬ G k = q := NA.out.gq k hk3
      have hqg : ¬ q = G k := fun h => hgq h.symm
      have e0 := NA.out.leaf k hk3 i hi3 0 (by decide)
      have e1 := NA.out.leaf k hk3 i hi3 1 (by decide)
      simp only [pgC, List.getElem?_cons_zero, List.getElem?_cons_succ, Nat.add_zero] at e0 e1
      have g0 := (NA.out.page k hk3).free (i * 2)
      have g1 := (NA.out.page k hk3).free (i * 2 + 1)
      have d5 : wa.drew.cell? ⟨q, k * 6 + 5, none⟩ = some (.bool (S3.blk k).failed) := NA.out.slot k hk3 5 (by decide)
      have f5 := NA.out.row.free (k * 6 + 5)
      --BEGIN17
      refine wp_region_held_drew (S := (fun W => W.cell? ⟨xb, 0, none⟩ = some (.string z1) ∧ W.cell? ⟨xb, 1, none⟩ = some (.string z2))) (by kernel_rfl) (⟨cell_of_block XB0.out 0, cell_of_block XB0.out 1⟩) (fun hHeld => ?_)
      generalize wa.drew = v0 at *
      refine wpAnyH_take (i := 0) (oi := { dst := some 88, op := Op.move (Operand.tmp 14), type := 85, pos := "nand.go:147", after := #[], guard := none }) (v := ?_) rfl (by kernel_rfl) (by kernel_rfl) (by kernel_rfl) (fun _ _ _ h => h) (Or.inl ⟨by kernel_rfl, ?_⟩) hHeld ?_
      rotate_left
      · (intro w hSw; (try dsimp only at hSw); go_simp); try with_reducible rfl
      try simp only [Act.put, List.setIfInBounds_toArray, List.set_cons_zero, List.set_cons_succ]
      refine wpAnyH_take (i := 1) (oi := { dst := some 89, op := Op.move (Operand.tmp 14), type := 85, pos := "nand.go:147", after := #[{ on := 9, ground := Ground.gcOnly Departure.lateStores }], guard := none }) (v := ?_) rfl (by kernel_rfl) (by kernel_rfl) (by kernel_rfl) (fun _ _ _ h => h) (Or.inl ⟨by kernel_rfl, ?_⟩) hHeld ?_
      rotate_left
      · (intro w hSw; (try dsimp only at hSw); go_simp); try with_reducible rfl
      try simp only [Act.put, List.setIfInBounds_toArray, List.set_cons_zero, List.set_cons_succ]
      refine wpAnyH_take (i := 2) (oi := { dst := some 90, op := Op.move (Operand.tmp 12), type := 79, pos := "nand.go:147", after := #[{ on := 12, ground := Ground.gcOnly Departure.lateStores }], guard := none }) (v := ?_) rfl (by kernel_rfl) (by kernel_rfl) (by kernel_rfl) (fun _ _ _ h => h) (Or.inl ⟨by kernel_rfl, ?_⟩) hHeld ?_
      rotate_left
      · (intro w hSw; (try dsimp only at hSw); go_simp); try with_reducible rfl
      try simp only [Act.put, List.setIfInBounds_toArray, List.set_cons_zero, List.set_cons_succ]
      refine wpAnyH_take (i := 3) (oi := { dst := some 91, op := Op.fieldAddr 70 (Operand.tmp 15) 0, type := 0, pos := "nand.go:147", after := #[], guard := none }) (v := ?_) rfl (by kernel_rfl) (by kernel_rfl) (by kernel_rfl) (fun _ _ _ h => h) (Or.inl ⟨by kernel_rfl, ?_⟩) hHeld ?_
      rotate_left
      · (intro w hSw; (try dsimp only at hSw); go_simp); try with_reducible rfl
      try simp only [Act.put, List.setIfInBounds_toArray, List.set_cons_zero, List.set_cons_succ]
      refine wpAnyH_take (i := 4) (oi := { dst := some 92, op := Op.load 9 (Operand.tmp 91), type := 9, pos := "nand.go:147", after := #[{ on := 3, ground := Ground.data }], guard := none }) (v := ?_) rfl (by kernel_rfl) (by kernel_rfl) (by kernel_rfl) (fun _ _ _ h => h) (Or.inl ⟨by kernel_rfl, ?_⟩) hHeld ?_
      rotate_left
      · (intro w hSw; (try dsimp only at hSw); go_simp); try with_reducible rfl
      try simp only [Act.put, List.setIfInBounds_toArray, List.set_cons_zero, List.set_cons_succ]
      refine wpAnyH_take (i := 5) (oi := { dst := some 93, op := Op.fieldAddr 70 (Operand.tmp 15) 1, type := 0, pos := "nand.go:147", after := #[{ on := 9, ground := Ground.gcOnly Departure.lateStores }], guard := none }) (v := ?_) rfl (by kernel_rfl) (by kernel_rfl) (by kernel_rfl) (fun _ _ _ h => h) (Or.inl ⟨by kernel_rfl, ?_⟩) hHeld ?_
      rotate_left
      · (intro w hSw; (try dsimp only at hSw); go_simp); try with_reducible rfl
      try simp only [Act.put, List.setIfInBounds_toArray, List.set_cons_zero, List.set_cons_succ]
      refine wpAnyH_take (i := 6) (oi := { dst := some 94, op := Op.load 9 (Operand.tmp 93), type := 9, pos := "nand.go:147", after := #[{ on := 5, ground := Ground.data }, { on := 9, ground := Ground.gcOnly Departure.lateStores }], guard := none }) (v := ?_) rfl (by kernel_rfl) (by kernel_rfl) (by kernel_rfl) (fun _ _ _ h => h) (Or.inl ⟨by kernel_rfl, ?_⟩) hHeld ?_
      rotate_left
      · (intro w hSw; (try dsimp only at hSw); go_simp); try with_reducible rfl
      try simp only [Act.put, List.setIfInBounds_toArray, List.set_cons_zero, List.set_cons_succ]
      refine wpAnyH_take (i := 7) (oi := { dst := some 95, op := Op.nilCheck (Operand.tmp 88), type := 0, pos := "nand.go:147", after := #[{ on := 0, ground := Ground.data }, { on := 0, ground := Ground.phase }, { on := 1, ground := Ground.textOnly Departure.lateStores }, { on := 2, ground := Ground.textOnly Departure.lateStores }, { on := 3, ground := Ground.phase }, { on := 4, ground := Ground.phase }, { on := 5, ground := Ground.textOnly Departure.lateStores }, { on := 6, ground := Ground.textOnly Departure.lateStores }], guard := none }) (v := ?_) rfl (by kernel_rfl) (by kernel_rfl) (by kernel_rfl) (fun _ _ _ h => h) (Or.inl ⟨by kernel_rfl, ?_⟩) hHeld ?_
      rotate_left
      · (intro w hSw; (try dsimp only at hSw); go_simp); try with_reducible rfl
      try simp only [Act.put, List.setIfInBounds_toArray, List.set_cons_zero, List.set_cons_succ]
      refine wpAnyH_take (i := 8) (oi := { dst := some 96, op := Op.fieldAddr 70 (Operand.tmp 95) 0, type := 0, pos := "nand.go:147", after := #[{ on := 7, ground := Ground.data }, { on := 0, ground := Ground.phase }, { on := 1, ground := Ground.textOnly Departure.lateStores }, { on := 2, ground := Ground.textOnly Departure.lateStores }, { on := 3, ground := Ground.phase }, { on := 4, ground := Ground.phase }, { on := 5, ground := Ground.textOnly Departure.lateStores }, { on := 6, ground := Ground.textOnly Departure.lateStores }], guard := none }) (v := ?_) rfl (by kernel_rfl) (by kernel_rfl) (by kernel_rfl) (fun _ _ _ h => h) (Or.inl ⟨by kernel_rfl, ?_⟩) hHeld ?_
      rotate_left
      · (intro w hSw; (try dsimp only at hSw); go_simp); try with_reducible rfl
      try simp only [Act.put, List.setIfInBounds_toArray, List.set_cons_zero, List.set_cons_succ]
      refine wpAnyH_ready (rs := [9]) (by kernel_rfl) (by simp) (AllReadyH.cons (o := { dst := none, op := Op.store 9 (Operand.tmp 96) (Operand.tmp 92), type := 0, pos := "nand.go:147", after := #[{ on := 8, ground := Ground.data }, { on := 4, ground := Ground.data }, { on := 0, ground := Ground.phase }, { on := 1, ground := Ground.textOnly Departure.lateStores }, { on := 2, ground := Ground.textOnly Departure.lateStores }, { on := 3, ground := Ground.phase }, { on := 4, ground := Ground.phase }, { on := 5, ground := Ground.textOnly Departure.lateStores }, { on := 6, ground := Ground.textOnly Departure.lateStores }], guard := none }) rfl (fun K hK => ?_) AllReadyH.nil)
      have hOld := hide hHeld
      clear hHeld
      go_simp
      have XB9 := hide ((block_setCell_other HGX.out (i * 2) (.string z1)).trans XB0.out)
      (try go_wp2_with fail)
      refine hK.out _ _ (⟨cell_of_block XB9.out 0, cell_of_block XB9.out 1⟩) (fun hHeld => ?_)
      clear hK K hOld
      try simp only [Act.put, List.setIfInBounds_toArray, List.set_cons_zero, List.set_cons_succ]
      refine wpAnyH_take (i := 10) (oi := { dst := some 97, op := Op.nilCheck (Operand.tmp 89), type := 0, pos := "nand.go:147", after := #[{ on := 1, ground := Ground.data }, { on := 0, ground := Ground.phase }, { on := 1, ground := Ground.phase }, { on := 2, ground := Ground.textOnly Departure.lateStores }, { on := 3, ground := Ground.phase }, { on := 4, ground := Ground.phase }, { on := 5, ground := Ground.phase }, { on := 6, ground := Ground.phase }, { on := 7, ground := Ground.phase }, { on := 8, ground := Ground.phase }, { on := 9, ground := Ground.phase }], guard := none }) (v := ?_) rfl (by kernel_rfl) (by kernel_rfl) (by kernel_rfl) (fun _ _ _ h => h) (Or.inl ⟨by kernel_rfl, ?_⟩) hHeld ?_
      rotate_left
      · (intro w hSw; (try dsimp only at hSw); go_simp); try with_reducible rfl
      try simp only [Act.put, List.setIfInBounds_toArray, List.set_cons_zero, List.set_cons_succ]
      refine wpAnyH_take (i := 11) (oi := { dst := some 98, op := Op.fieldAddr 70 (Operand.tmp 97) 1, type := 0, pos := "nand.go:147", after := #[{ on := 10, ground := Ground.data }, { on := 0, ground := Ground.phase }, { on := 1, ground := Ground.phase }, { on := 2, ground := Ground.textOnly Departure.lateStores }, { on := 3, ground := Ground.phase }, { on := 4, ground := Ground.phase }, { on := 5, ground := Ground.phase }, { on := 6, ground := Ground.phase }, { on := 7, ground := Ground.phase }, { on := 8, ground := Ground.phase }, { on := 9, ground := Ground.phase }], guard := none }) (v := ?_) rfl (by kernel_rfl) (by kernel_rfl) (by kernel_rfl) (fun _ _ _ h => h) (Or.inl ⟨by kernel_rfl, ?_⟩) hHeld ?_
      rotate_left
      · (intro w hSw; (try dsimp only at hSw); go_simp); try with_reducible rfl
      try simp only [Act.put, List.setIfInBounds_toArray, List.set_cons_zero, List.set_cons_succ]
      refine wpAnyH_ready (rs := [12]) (by kernel_rfl) (by simp) (AllReadyH.cons (o := { dst := none, op := Op.store 9 (Operand.tmp 98) (Operand.tmp 94), type := 0, pos := "nand.go:147", after := #[{ on := 11, ground := Ground.data }, { on := 6, ground := Ground.data }, { on := 9, ground := Ground.chain }, { on := 0, ground := Ground.phase }, { on := 1, ground := Ground.phase }, { on := 2, ground := Ground.textOnly Departure.lateStores }, { on := 3, ground := Ground.phase }, { on := 4, ground := Ground.phase }, { on := 5, ground := Ground.phase }, { on := 6, ground := Ground.phase }, { on := 7, ground := Ground.phase }, { on := 8, ground := Ground.phase }, { on := 9, ground := Ground.phase }], guard := none }) rfl (fun K hK => ?_) AllReadyH.nil)
      have hOld := hide hHeld
      clear hHeld
      go_simp
      have XB12 := hide ((block_setCell_other HGX.out (i * 2 + 1) (.string z2)).trans XB9.out)
      (try go_wp2_with fail)
      refine hK.out _ _ (⟨cell_of_block XB12.out 0, cell_of_block XB12.out 1⟩) (fun hHeld => ?_)
      clear hK K hOld
      try simp only [Act.put, List.setIfInBounds_toArray, List.set_cons_zero, List.set_cons_succ]
      refine wpAnyH_take (i := 13) (oi := { dst := some 99, op := Op.nilCheck (Operand.tmp 90), type := 0, pos := "nand.go:147", after := #[{ on := 2, ground := Ground.data }, { on := 0, ground := Ground.phase }, { on := 1, ground := Ground.phase }, { on := 2, ground := Ground.phase }, { on := 3, ground := Ground.phase }, { on := 4, ground := Ground.phase }, { on := 5, ground := Ground.phase }, { on := 6, ground := Ground.phase }, { on := 7, ground := Ground.phase }, { on := 8, ground := Ground.phase }, { on := 9, ground := Ground.phase }, { on := 10, ground := Ground.phase }, { on := 11, ground := Ground.phase }, { on := 12, ground := Ground.phase }], guard := none }) (v := ?_) rfl (by kernel_rfl) (by kernel_rfl) (by kernel_rfl) (fun _ _ _ h => h) (Or.inl ⟨by kernel_rfl, ?_⟩) hHeld ?_
      rotate_left
      · (intro w hSw; (try dsimp only at hSw); go_simp); try with_reducible rfl
      try simp only [Act.put, List.setIfInBounds_toArray, List.set_cons_zero, List.set_cons_succ]
      refine wpAnyH_take (i := 14) (oi := { dst := some 100, op := Op.fieldAddr 78 (Operand.tmp 99) 5, type := 0, pos := "nand.go:147", after := #[{ on := 13, ground := Ground.data }, { on := 0, ground := Ground.phase }, { on := 1, ground := Ground.phase }, { on := 2, ground := Ground.phase }, { on := 3, ground := Ground.phase }, { on := 4, ground := Ground.phase }, { on := 5, ground := Ground.phase }, { on := 6, ground := Ground.phase }, { on := 7, ground := Ground.phase }, { on := 8, ground := Ground.phase }, { on := 9, ground := Ground.phase }, { on := 10, ground := Ground.phase }, { on := 11, ground := Ground.phase }, { on := 12, ground := Ground.phase }], guard := none }) (v := ?_) rfl (by kernel_rfl) (by kernel_rfl) (by kernel_rfl) (fun _ _ _ h => h) (Or.inl ⟨by kernel_rfl, ?_⟩) hHeld ?_
      rotate_left
      · (intro w hSw; (try dsimp only at hSw); go_simp); try with_reducible rfl
      try simp only [Act.put, List.setIfInBounds_toArray, List.set_cons_zero, List.set_cons_succ]
      refine wpAnyH_ready (rs := [15]) (by kernel_rfl) (by simp) (AllReadyH.cons (o := { dst := none, op := Op.store 4 (Operand.tmp 100) (Operand.const (Value.bool true)), type := 0, pos := "nand.go:147", after := #[{ on := 14, ground := Ground.data }, { on := 12, ground := Ground.chain }, { on := 0, ground := Ground.phase }, { on := 1, ground := Ground.phase }, { on := 2, ground := Ground.phase }, { on := 3, ground := Ground.phase }, { on := 4, ground := Ground.phase }, { on := 5, ground := Ground.phase }, { on := 6, ground := Ground.phase }, { on := 7, ground := Ground.phase }, { on := 8, ground := Ground.phase }, { on := 9, ground := Ground.phase }, { on := 10, ground := Ground.phase }, { on := 11, ground := Ground.phase }, { on := 12, ground := Ground.phase }], guard := none }) rfl (fun K hK => ?_) AllReadyH.nil)
      have hOld := hide hHeld
      clear hHeld
      go_simp
      have XB15 := hide ((block_setCell_other HQX.out (k * 6 + 5) (.bool true)).trans XB12.out)
      (try go_wp2_with fail)
      refine hK.out _ _ (⟨cell_of_block XB15.out 0, cell_of_block XB15.out 1⟩) (fun hHeld => ?_)
      clear hK K hOld
      try simp only [Act.put, List.setIfInBounds_toArray, List.set_cons_zero, List.set_cons_succ]
      refine wpAnyH_done (by kernel_rfl) ?_ _
      clear hHeld
      --END17
      have N6 := NA.out.setPage2 k hk3 i hi3 (z1, z2)
      have hb6 := blk_put_self S3 k { S3.blk k with pages := (S3.blk k).pages.set i (z1, z2) } hk3
      have N7 := N6.setBlk k (by rw [put_length]; exact hk3) 5 (by decide) (.bool true) { S3.blk k with pages := (S3.blk k).pages.set i (z1, z2), failed := true } (by rw [hb6]) (by rw [hb6]; rfl)
      rw [put_put] at N7
      have HN7 := hide N7
      have T6 := hide ((TA.out.trans (NA.out.turnPage2 k hk3 i hi3 z1 z2)).trans (N6.turnBlk (k * 6 + 5) (.bool true)))
      clear N6 N7 hb6
      go_wp2_with fail
      go_ret
      refine ⟨ret_int (by rw [HPE.out, if_neg hfz, hwk, if_pos rfl]), ?_, T6.out⟩
      rw [HPS.out, if_neg hfz, hwk, if_pos rfl, HZ.out]
      exact HN7.out
    | false =>
      rw [hwk] at d4
      have N6 := hide (N4.out.setPage2 k hk3 i hi3 (d, e))
      have T6 := hide (T4.out.trans (N4.out.turnPage2 k hk3 i hi3 d e))
      go_wp2_with fail
      go_ret
      refine ⟨ret_int (by rw [HPE.out, if_neg hfz, hwk, if_neg (by decide)]), ?_, T6.out⟩
      rw [HPS.out, if_neg hfz, hwk, if_neg (by decide)]
      exact N6.out
end Go.Proofs.Ythippbckjldijaa
