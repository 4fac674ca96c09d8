/-
  Layer 12, the program's calls, third part: Put, Drop, Live, Total.
-/
import Derived.Test.YtpgogdnjddeagaaWhere2
--import Derived.Test.Zdbg
namespace Go.Proofs.Ytpgogdnjddeagaa
set_option linter.unusedSimpArgs false
set_option linter.unusedVariables false
open Go.RowKit Go.Maps W

section
variable {w : World} {p q o l : Nat} {pg : Int} {nb : Nat} {S : Spots}
theorem live_yes (h : WhereAt w p q o l pg nb S) (b : Nat) (hb : b < nb) :
    Calls Try.prog 15 #[.pointer (some ⟨p, 0, none⟩), .int .i64 (b : Int)] w fun e w' => e = .returned (.int .i64 ((liveN S (b : Int) : Nat) : Int)) ∧ w = w' := by
  have HW := hide h
  obtain ⟨-, -, -, c3⟩ := h.cells
  obtain ⟨e0, -⟩ := h.lv b hb
  clear h
  generalize liveN S (b : Int) = x at *
  go_enter Try.func15, Try.ntmps15
  go_wp2_with fail
  refine (block_yes HW.out b hb).mono ?_
  rintro e w1 ⟨rfl, rfl⟩
  go_wp2
  go_ret
  exact ⟨rfl, rfl⟩
theorem live_no (h : WhereAt w p q o l pg nb S) (b : Int) (hb : b < 0 ∨ (nb : Int) ≤ b) :
    Calls Try.prog 15 #[.pointer (some ⟨p, 0, none⟩), .int .i64 b] w fun e w' => e = .returned (.int .i64 0) ∧ w = w' := by
  have HW := hide h
  clear h
  go_enter Try.func15, Try.ntmps15
  go_wp2_with fail
  refine (block_no HW.out b hb).mono ?_
  rintro e w1 ⟨rfl, rfl⟩
  go_wp2
  go_ret
  exact ⟨rfl, rfl⟩
theorem live_nil (b : Int) (w : World) :
    Calls Try.prog 15 #[.pointer none, .int .i64 b] w fun e w' => e = .returned (.int .i64 0) ∧ w = w' := by
  go_enter Try.func15, Try.ntmps15
  go_wp2_with fail
  refine (block_nil b _).mono ?_
  rintro e w1 ⟨rfl, rfl⟩
  go_wp2
  go_ret
  exact ⟨rfl, rfl⟩
theorem put_nil (i b n : Int) (w : World) :
    Calls Try.prog 23 #[.pointer none, .int .i64 i, .agg #[.int .i64 b, .int .i64 n]] w fun e w' => e = .returned (.int .i64 1) ∧ Below w.heap.size w w' := by
  go_enter Try.func23, Try.ntmps23
  go_wp2
  go_ret
  exact ⟨rfl, (Below.refl _ _).alloc (Nat.le_refl _) _⟩
theorem put_bad1 (h : WhereAt w p q o l pg nb S) (i b n : Int) (hi : i < 0 ∨ (S.length : Int) ≤ i) :
    Calls Try.prog 23 #[.pointer (some ⟨p, 0, none⟩), .int .i64 i, .agg #[.int .i64 b, .int .i64 n]] w fun e w' => e = .returned (.int .i64 3) ∧ Below w.heap.size w w' := by
  have HW := hide (h.below ((Below.refl _ _).alloc (Nat.le_refl _) (.cells #[.int .i64 b, .int .i64 n] 60)))
  clear h
  go_enter Try.func23, Try.ntmps23
  go_wp2
  go_quiet ((go_at_call 36; exact quiet_eq (known_no (HW.out.drewN _) i hi)))
  go_wp2
  go_ret
  exact ⟨rfl, ((Below.refl _ _).alloc (Nat.le_refl _) _).drewN _⟩
theorem put_bad2 (h : WhereAt w p q o l pg nb S) (i : Nat) (b n : Int) (hi : i < S.length) (hb : b < 0 ∨ (nb : Int) ≤ b) :
    Calls Try.prog 23 #[.pointer (some ⟨p, 0, none⟩), .int .i64 (i : Int), .agg #[.int .i64 b, .int .i64 n]] w fun e w' => e = .returned (.int .i64 3) ∧ Below w.heap.size w w' := by
  have HW := hide (h.below ((Below.refl _ _).alloc (Nat.le_refl _) (.cells #[.int .i64 b, .int .i64 n] 60)))
  clear h
  go_enter Try.func23, Try.ntmps23
  go_wp2
  go_quiet ((first | (go_at_call 36; exact quiet_eq (known_yes (HW.out.drewN _) i hi)) | (go_at_call 34; exact quiet_eq (block_no (HW.out.drewN _) b hb))))
  go_wp2
  go_ret
  exact ⟨rfl, ((Below.refl _ _).alloc (Nat.le_refl _) _).drewN _⟩
theorem put_bad3 (h : WhereAt w p q o l pg nb S) (i b : Nat) (n : Int) (hi : i < S.length) (hb : b < nb) (hn : n < 0 ∨ pg ≤ n) :
    Calls Try.prog 23 #[.pointer (some ⟨p, 0, none⟩), .int .i64 (i : Int), .agg #[.int .i64 (b : Int), .int .i64 n]] w fun e w' => e = .returned (.int .i64 3) ∧ Below w.heap.size w w' := by
  have HW := hide (h.below ((Below.refl _ _).alloc (Nat.le_refl _) (.cells #[.int .i64 (b : Int), .int .i64 n] 60)))
  have hpl := h.lt.1
  obtain ⟨c0, -⟩ := h.cells
  clear h
  by_cases h0 : n < 0
  · clear hn
    go_enter Try.func23, Try.ntmps23
    go_wp2
    go_quiet ((first | (go_at_call 36; exact quiet_eq (known_yes (HW.out.drewN _) i hi)) | (go_at_call 34; exact quiet_eq (block_yes (HW.out.drewN _) b hb))))
    go_wp2
    go_ret
    exact ⟨rfl, ((Below.refl _ _).alloc (Nat.le_refl _) _).drewN _⟩
  · have h1 : pg ≤ n := by omega
    have hd : decide (n < 0) = false := by simpa using h0
    clear hn h0
    go_enter Try.func23, Try.ntmps23
    go_wp2
    go_quiet ((first | (go_at_call 36; exact quiet_eq (known_yes (HW.out.drewN _) i hi)) | (go_at_call 34; exact quiet_eq (block_yes (HW.out.drewN _) b hb))))
    go_wp2
    go_ret
    exact ⟨rfl, ((Below.refl _ _).alloc (Nat.le_refl _) _).drewN _⟩
theorem put_there (h : WhereAt w p q o l pg nb S) (i b n j : Nat) (hi : i < S.length) (hb : b < nb) (hn : (n : Int) < pg) (hj : owner S ((b : Int), (n : Int)) = some j) (hji : j ≠ i) :
    Calls Try.prog 23 #[.pointer (some ⟨p, 0, none⟩), .int .i64 (i : Int), .agg #[.int .i64 (b : Int), .int .i64 (n : Int)]] w fun e w' => e = .returned (.int .i64 16) ∧ Below w.heap.size w w' := by
  have HW := hide (h.below ((Below.refl _ _).alloc (Nat.le_refl _) (.cells #[.int .i64 (b : Int), .int .i64 (n : Int)] 60)))
  have hpl := h.lt.1
  obtain ⟨c0, -⟩ := h.cells
  have hbig := h.big
  have HI := hide (show I64 b ∧ I64 n from ⟨⟨by omega, by omega⟩, ⟨by omega, by omega⟩⟩)
  have HZ := hide (show ownZ S b n = (j : Int) by unfold ownZ; rw [hj])
  have t1 : ((j : Int) == (i : Int)) = false := by simp; omega
  have t1' : ((j : Int) != (i : Int)) = true := by simp; omega
  have t2 : ((j : Int) == -1) = false := by simp
  have hd : decide ((n : Int) < 0) = false := by simp
  have hd2 : decide (pg ≤ (n : Int)) = false := by simp; omega
  clear h hj hbig hji
  go_enter Try.func23, Try.ntmps23
  go_wp2
  go_quiet ((first | (go_at_call 36; exact quiet_eq (known_yes (HW.out.drewN _) i hi)) | (go_at_call 34; exact quiet_eq (block_yes (HW.out.drewN _) b hb))))
  go_wp2_with fail
  refine (owner_any (HW.out.drewN _) b n HI.out.1 HI.out.2).mono ?_
  rintro e w1 ⟨rfl, hb1⟩
  have HB1 := hide hb1
  rw [HZ.out]
  clear hb1
  go_wp2
  go_ret
  exact ⟨rfl, (((Below.refl _ _).alloc (Nat.le_refl _) _).drewN _).trans (HB1.out.mono (by simp))⟩
theorem owner_free (hi : Inj S) {x : Int × Int} {i : Nat} (hj : owner S x = none ∨ owner S x = some i) : owner (S.set i none) x = none := by
  rw [owner_drop hi]
  rcases hj with hj | hj
  · rw [hj]; split <;> rfl
  · rw [if_pos (owner_some hj)]
theorem liveZ_put {i b n nb : Nat} {v : Int} (hs : S.getD i none = none) (hl : i < S.length) (hb : b < nb) (hv : v = ((liveN S (b : Int) : Nat) : Int) + 1) : (liveZ S nb).set b v = liveZ (S.set i (some ((b : Int), (n : Int)))) nb := by
  apply List.ext_getElem (by simp [liveZ])
  intro j h1 h2
  have hj : j < nb := by simpa [liveZ] using h2
  have := liveN_set hl (some ((b : Int), (n : Int))) (j : Int)
  rw [hs] at this
  rw [List.getElem_set]
  simp only [liveZ, List.getElem_map, List.getElem_range]
  by_cases e : b = j
  · subst e; rw [if_pos rfl, hv]; simp at this; omega
  · rw [if_neg e]
    simp [show ¬ ((b : Int) = (j : Int)) by omega] at this
    omega
theorem total_put {i : Nat} {x : Int × Int} {c : Option Value} (hs : S.getD i none = none) (hl : i < S.length) (hc : c = none) : (if c.isSome = true then total S else total S + 1) = total (S.set i (some x)) := by
  have := countP_set (p := Option.isSome) hl (some x)
  rw [hs] at this
  subst hc
  simp at this ⊢
  unfold total
  omega
theorem owners_put {i : Nat} {b n : Int} {f : Lit → Option Value} (hi : Inj S) (hl : i < S.length) (hs : S.getD i none = none) (ho : owner S (b, n) = none) (hbn : I64 b ∧ I64 n) (hf : ∀ b p, I64 b → I64 p → f (pk b p) = (owner S (b, p)).map (fun i : Nat => Value.int .i64 (i : Int))) :
    ∀ b' p', I64 b' → I64 p' → (fun l : Lit => if l.sameKey (pk b n) = true then some (Value.int .i64 (i : Int)) else f l) (pk b' p') = (owner (S.set i (some (b, n))) (b', p')).map (fun i : Nat => Value.int .i64 (i : Int)) := by
  intro b' p' hb' hp'
  rw [owner_put hi hl (.inl ho)]
  dsimp only
  by_cases e : pk b' p' = pk b n
  · obtain ⟨rfl, rfl⟩ := pk_inj hb' hp' hbn.1 hbn.2 e
    rw [if_pos (WideAt.sameKey_self (isKey_pk _ _)), if_pos rfl]
    rfl
  · rw [if_neg (fun h => e (WideAt.sameKey_eq h)), if_neg ?_, if_neg ?_, hf b' p' hb' hp']
    · intro h
      have h2 : S[i]? = some none := by
        rw [List.getElem?_eq_getElem hl]
        simp only [List.getD, List.getElem?_eq_getElem hl, Option.getD_some] at hs
        rw [hs]
      rw [h2] at h
      simp at h
    · intro h
      simp only [Prod.mk.injEq] at h
      exact e (by rw [h.1, h.2])
theorem ok_put (ok : ∀ (i : Nat) b p, S[i]? = some (some (b, p)) → 0 ≤ b ∧ b < nb ∧ 0 ≤ p ∧ p < pg) (j b n : Nat) (hb : b < nb) (hn : (n : Int) < pg) : ∀ (i : Nat) b' p, (S.set j (some ((b : Int), (n : Int))))[i]? = some (some (b', p)) → 0 ≤ b' ∧ b' < nb ∧ 0 ≤ p ∧ p < pg := by
  intro i b' p h
  rw [List.getElem?_set] at h
  split at h
  · split at h
    · simp only [Option.some.injEq, Prod.mk.injEq] at h
      omega
    · cases h
  · exact ok i b' p h
set_option maxHeartbeats 1000000 in
theorem put_ok (h : WhereAt w p q o l pg nb S) (i b n : Nat) (hi : i < S.length) (hb : b < nb) (hn : (n : Int) < pg) (hj : owner S ((b : Int), (n : Int)) = none ∨ owner S ((b : Int), (n : Int)) = some i) :
    Calls Try.prog 23 #[.pointer (some ⟨p, 0, none⟩), .int .i64 (i : Int), .agg #[.int .i64 (b : Int), .int .i64 (n : Int)]] w fun e w' => e = .returned (.int .i64 0) ∧ WhereAt w' p q o l pg nb (S.set i (some ((b : Int), (n : Int)))) ∧ OnlyL [q, o, l] w w' := by
  have HBX := hide ((OnlyL.refl [q, o, l] w).alloc (.cells #[.int .i64 (b : Int), .int .i64 (n : Int)] 60))
  have HN := hide (heap_new w (.cells #[.int .i64 (b : Int), .int .i64 (n : Int)] 60))
  have HW := hide (h.below ((Below.refl _ _).alloc (Nat.le_refl _) (.cells #[.int .i64 (b : Int), .int .i64 (n : Int)] 60)))
  have HLT := hide h.lt
  have hpl := h.lt.1
  obtain ⟨c0, -⟩ := h.cells
  have hbig := h.big
  have HBIG := hide hbig
  have HI := hide (show I64 b ∧ I64 n from ⟨⟨by omega, by omega⟩, ⟨by omega, by omega⟩⟩)
  have HOK := hide h.ok
  have HINJ := hide h.inj
  have HJ := hide hj
  have hd : decide ((n : Int) < 0) = false := by simp
  have hd2 : decide (pg ≤ (n : Int)) = false := by simp; omega
  have hz : ownZ S b n = -1 ∨ ownZ S b n = (i : Int) := by
    unfold ownZ
    rcases hj with hj | hj
    · rw [hj]; exact .inl rfl
    · rw [hj]; exact .inr rfl
  have HZ := hide hz
  clear h hj hbig hz
  go_enter Try.func23, Try.ntmps23
  go_wp2
  go_quiet ((first | (go_at_call 36; exact quiet_eq (known_yes (HW.out.drewN _) i hi)) | (go_at_call 34; exact quiet_eq (block_yes (HW.out.drewN _) b hb))))
  go_wp2_with fail
  refine (owner_any (HW.out.drewN _) b n HI.out.1 HI.out.2).mono ?_
  rintro e w1 ⟨rfl, hb1⟩
  have HW1 := hide ((HW.out.drewN nq).below hb1)
  have HB1 := hide ((HBX.out.drewN nq).trans (.of_below hb1))
  have HN1 := hide ((hb1.block _ (heap_lt (HN.out))).trans HN.out)
  generalize w.heap.size = B at *
  clear hb1 c0 hpl HW HBX HN
  rcases HZ.out with hz | hz
  all_goals
    rw [hz]
    have t1 : ((i : Int) == -1) = false := by simp
    have t2 : ((i : Int) == (i : Int)) = true := by simp
    have t3 : ((i : Int) != (i : Int)) = false := by simp
    clear hz
    go_wp2_with fail
    refine (leave_any HW1.out i hi).mono ?_
    rintro e w2 ⟨rfl, h2, ho2⟩
    have HW2 := hide h2
    have HO2 := hide (HB1.out.trans ho2)
    have HN2 := hide ((ho2.block B (heap_lt HN1.out) (by have := HLT.out; simp; omega)).trans HN1.out)
    clear h2 ho2 t1 t2 t3
    go_wp2_with fail
    obtain ⟨f, hw, hf⟩ := HW2.out.parts
    have HF := hide hf
    have HP := hide hw
    have HL1 := hide (show i < (S.set i none).length by rw [List.length_set]; exact hi)
    have HG := hide (show (S.set i none).getD i none = none by simp [List.getD, hi])
    have HI2 := hide HW2.out.inj
    have HK2 := hide HW2.out.ok
    have HO := hide (owner_free HINJ.out HJ.out)
    have HBG2 := hide HW2.out.big
    have HLV := hide (Nat.le_trans (live_le (S.set i none) b) (Nat.le_trans (total_le _) HBG2.out.2.2))
    have HSS := hide (show (S.set i none).set i (some ((b : Int), (n : Int))) = S.set i (some ((b : Int), (n : Int))) from List.set_set ..)
    generalize S.set i none = S1 at *
    obtain ⟨-, c1, c2, c3⟩ := hw.cells
    obtain ⟨d0, f0⟩ := hw.spot i HL1.out 0 (by omega)
    obtain ⟨d1, f1⟩ := hw.spot i HL1.out 1 (by omega)
    obtain ⟨d2, f2⟩ := hw.spot i HL1.out 2 (by omega)
    rw [HG.out] at d0 d1 d2
    simp only [spotC, List.getElem?_cons_zero, List.getElem?_cons_succ, Nat.add_zero] at d0 d1 d2 f0
    have n0 : w2.cell? ⟨B, 0, none⟩ = some (.int .i64 (b : Int)) := by rw [cell_of_block HN2.out]; rfl
    have n1 : w2.cell? ⟨B, 1, none⟩ = some (.int .i64 (n : Int)) := by rw [cell_of_block HN2.out]; rfl
    have hL1 := HL1.out
    clear hf hw
    go_still_tail 8, (by kernel_rfl)
    change wpList _ _ _ _ _ w2.drew
    go_wp2_with fail
    clear c1 c2 c3 d0 d1 d2 f0 f1 f2 n0 n1
    have HP3 := hide ((HP.out.setSpot i HL1.out (some ((b : Int), (n : Int))) _ _ _ rfl).drew)
    have HO3 := hide (((HO2.out.trans (OnlyL.setCell (q := q) (by simp) (i * 3) (.int .i64 (b : Int)))).trans (OnlyL.setCell (q := q) (by simp) (i * 3 + 1) (.int .i64 (n : Int)))).trans (OnlyL.setCell (q := q) (by simp) (i * 3 + 2) (.bool true))).drew
    have hqB : q ≠ B := by have := HLT.out; omega
    have HN3 := hide (show ((((w2.setCell ⟨q, i * 3, none⟩ (.int .i64 (b : Int))).setCell ⟨q, i * 3 + 1, none⟩ (.int .i64 (n : Int))).setCell ⟨q, i * 3 + 2, none⟩ (.bool true)).drew).heap[B]? = some (.cells #[.int .i64 (b : Int), .int .i64 (n : Int)] 60)
      from (((block_setCell_other hqB _ _).trans (block_setCell_other hqB _ _)).trans (block_setCell_other hqB _ _)).trans HN2.out)
    clear hqB
    generalize (((w2.setCell ⟨q, i * 3, none⟩ (.int .i64 (b : Int))).setCell ⟨q, i * 3 + 1, none⟩ (.int .i64 (n : Int))).setCell ⟨q, i * 3 + 2, none⟩ (.bool true)).drew = w3 at *
    clear HP HO2 HN2 HW2
    obtain ⟨-, c1, c2, c3⟩ := HP3.out.cells
    have n0 : w3.cell? ⟨B, 0, none⟩ = some (.int .i64 (b : Int)) := by rw [cell_of_block HN3.out]; rfl
    have n1 : w3.cell? ⟨B, 1, none⟩ = some (.int .i64 (n : Int)) := by rw [cell_of_block HN3.out]; rfl
    go_still_tail 6, (by kernel_rfl)
    change wpList _ _ _ _ _ w3.drew
    refine wpList_mapStore _ rfl _ _ _ 72 rfl 60 3 KeyedP Try.underlying72 o _ _ f rfl HP3.out.drew.own (by have := HBG2.out.2.2; have := total_le S1; unfold maxLen; omega) _ (.int .i64 (i : Int)) (pk b n) rfl rfl (key_place HI.out.1 HI.out.2) (isKey_pk _ _) ?_
    intro w4 hm4 hg4
    have ho4 := only_of_grown hg4
    have HP4 := hide (HP3.out.drew.mapped ho4 hm4.tight)
    have HO4 := hide (HO3.out.drew.trans (.of_only ho4 (by simp)))
    have HN4 := hide ((ho4.block B (heap_lt HN3.out) (by have := HLT.out; omega)).trans HN3.out)
    clear hm4 hg4 ho4 c1 c2 c3 n0 n1 HO3 HN3
    go_wp2
    obtain ⟨-, c1, c2, c3⟩ := HP4.out.cells
    obtain ⟨e0, g0⟩ := HP4.out.lv b (by rw [liveZ_len]; exact hb)
    rw [liveZ_at _ _ _ hb] at e0
    have n0 : w4.cell? ⟨B, 0, none⟩ = some (.int .i64 (b : Int)) := by rw [cell_of_block HN4.out]; rfl
    have HX := hide (HP4.out.setLive b (((liveN S1 (b : Int) : Nat) : Int) + 1))
    have hl1 : (0 : Int) ≤ ((liveN S1 (b : Int) : Nat) : Int) := by omega
    have hl2 : ((liveN S1 (b : Int) : Nat) : Int) ≤ 4096 := by have := HLV.out; omega
    generalize hx : ((liveN S1 (b : Int) : Nat) : Int) = x at *
    have HXL := hide hx
    have HE := hide (show f (pk b n) = none by rw [HF.out b n HI.out.1 HI.out.2, HO.out]; rfl)
    clear hx c1 c2
    go_still_tail 10, (by kernel_rfl)
    change wpList _ _ _ _ _ w4.drew
    go_wp2_with fail
    go_ret
    refine ⟨rfl, ?_, (HO4.out.trans (OnlyL.setCell (q := l) (by simp) _ _)).drew⟩
    have hfin := (WParts.whole HX.out (liveZ_put (n := n) HG.out HL1.out hb (by rw [HXL.out])) (total_put (x := ((b : Int), (n : Int))) HG.out HL1.out HE.out) (owners_put HI2.out HL1.out HG.out HO.out HI.out HF.out) (HI2.out.put (.inl HO.out)) (ok_put HK2.out i b n hb hn) (by rw [List.length_set]; exact HBG2.out))
    rw [HSS.out] at hfin
    exact hfin.drew
end
end Go.Proofs.Ytpgogdnjddeagaa
