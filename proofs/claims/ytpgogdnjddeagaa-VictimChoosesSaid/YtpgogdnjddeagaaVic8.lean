/-
  Layer 15, the document's calls: in, Choose, Cold.
-/
import Derived.Test.YtpgogdnjddeagaaVic6
--import Derived.Test.Zdbg
namespace Go.Proofs.Ytpgogdnjddeagaa
set_option linter.unusedSimpArgs false
set_option linter.unusedVariables false
open Go.RowKit Go.WideShapes Go.ChangeShapes Go.ChangeAt Go.Deep W

set_option maxRecDepth 100000 in
theorem in_any (zs : List Int) (v : Value) (x : Int) (w : World) (hv : NumsAt w .i64 v zs) (hl : zs.length ≤ maxLen) :
    Calls Try.prog 28 #[v, .int .i64 x] w fun e w' => e = .returned (.bool (decide (x ∈ zs))) ∧ w = w' := by
  obtain ⟨a, cap, rfl, hc, hat⟩ := nums_at hv
  have HAT := hide hat
  have hl63 : zs.length ≤ 9223372036854775807 := by unfold maxLen at hl; exact hl
  clear hat hv hl
  go_enter Try.func28, Try.ntmps28
  go_wp2_with fail
  go_loopw [5] (fun i W => ∃ k : Nat, k ≤ zs.length ∧ i = .int .i64 k ∧ x ∉ zs.take k ∧ w = W) (fun i _ => zs.length - (intOf i).toNat)
  case atStart => exact ⟨0, by omega, rfl, by simp, rfl⟩
  case round =>
    obtain ⟨k, hk, rfl, hx, rfl⟩ := hrel
    have HX := hide hx
    clear hx
    by_cases hlt : k < zs.length
    · obtain ⟨b, off, rfl, hb, c⟩ := HAT.out k hlt
      have HG := hide (show zs.take (k + 1) = zs.take k ++ [zs.getD k 0] by rw [List.take_add_one]; simp [List.getD, hlt])
      have HM := hide (show zs.getD k 0 ∈ zs by simp [List.getD, hlt])
      clear hb
      generalize zs.getD k 0 = y at *
      by_cases hxy : y = x
      · subst hxy
        go_wp2_with fail
        go_ret
        exact ⟨ret_bb (decide_eq_true HM.out).symm, rfl⟩
      · go_wp2_with fail
        go_roundw
        case rel => exact ⟨k + 1, by omega, by go_num, by rw [HG.out]; simp only [List.mem_append, List.mem_singleton]; exact ⟨fun h => h.elim HX.out (fun e => hxy e.symm), trivial⟩⟩
        case measure => simp [intOf]; omega
    · obtain rfl : k = zs.length := by omega
      rw [List.take_length] at HX
      go_wp2_with fail
      go_ret
      exact ⟨ret_bb (decide_eq_false HX.out).symm, rfl⟩
/-- a row of live pages -/
def LivAt (w : World) (b n : Nat) (lv : Int → Int) : Prop := b < w.heap.size ∧ ∀ k : Nat, k < n → w.cell? ⟨b, k, none⟩ = some (.int .i64 (lv k))
theorem LivAt.below {w w' : World} {b n : Nat} {lv : Int → Int} (h : LivAt w b n lv) (hb : Below w.heap.size w w') : LivAt w' b n lv :=
  ⟨Nat.lt_of_lt_of_le h.1 hb.size, fun k hk => cell_keep (h.2 k hk) h.1 hb⟩
theorem usedB_at (L : List (Int × Int)) (skip : List Int) (k : Nat) (hk : k < L.length) : usedB L skip (k : Int) = (decide ((L.getD k (0, 0)).1 = 2) && !decide ((k : Int) ∈ skip)) := by unfold usedB; rw [fstZ_in L k hk]
set_option maxRecDepth 100000 in
set_option maxHeartbeats 2000000 in
theorem rchoose_any (r s t b : Nat) (L : List (Int × Int)) (lv : Int → Int) (hl : L.length ≤ 256) (sv : Value) (skip : List Int) (hs : skip.length ≤ maxLen) (w : World) (h : RPAt w r s t L) (hlv : LivAt w b L.length lv) (hsk : NumsAt w .i64 sv skip) :
    Calls Try.prog 9 #[.pointer (some ⟨r, 0, none⟩), .slice (some ⟨b, 0, none⟩) L.length L.length, sv] w fun e w' =>
      e = .returned (.tuple #[.int .i64 (if firstK (usedB L skip) (aheadF L lv) L.length = -1 then 0 else firstK (usedB L skip) (aheadF L lv) L.length), .bool (decide (firstK (usedB L skip) (aheadF L lv) L.length ≠ -1))]) ∧ Below w.heap.size w w' := by
  obtain ⟨a, cap, rfl, -, -⟩ := nums_at hsk
  have H0 := hide h
  have LV := hide hlv
  have SK := hide hsk
  have HIN := hide (fun x W hW => in_any skip (.slice a skip.length cap) x W hW hs)
  generalize hn : L.length = n at *
  have HN := hide hn.symm
  clear h hlv hsk hn
  go_enter Try.func9, Try.ntmps9
  go_wp2_with fail
  go_loopw [8, 9] (fun z i W => ∃ k : Nat, k ≤ n ∧ i = .int .i64 k ∧ z = .int .i64 (firstK (usedB L skip) (aheadF L lv) k) ∧ Below w.heap.size w W) (fun _ i _ => n - (intOf i).toNat)
  case atStart => exact ⟨0, by omega, rfl, rfl, Below.refl _ _⟩
  case round =>
    obtain ⟨k, hk, rfl, rfl, hb⟩ := hrel
    have BK := hide hb
    have RK := hide (H0.out.below hb)
    have LK := hide (LV.out.below hb)
    have SKK := hide (SK.out.below hb)
    clear hb
    obtain ⟨r0, r1⟩ := RK.out.cells
    rw [← HN.out] at r0 r1
    by_cases hlt : k < n
    · obtain ⟨cs, ct, -, -⟩ := RK.out.at k (by rw [← HN.out]; exact hlt)
      have cl := LK.out.2 k hlt
      have hbd := firstK_bd (usedB L skip) (aheadF L lv) k
      have HFN := hide (show firstK (usedB L skip) (aheadF L lv) (k + 1) = if usedB L skip k = true ∧ (firstK (usedB L skip) (aheadF L lv) k = -1 ∨ aheadF L lv k (firstK (usedB L skip) (aheadF L lv) k) = true) then (k : Int) else firstK (usedB L skip) (aheadF L lv) k from rfl)
      rw [usedB_at L skip k (by rw [← HN.out]; exact hlt)] at HFN
      have HAH := hide (fun z : Int => show aheadF L lv k z = if lv k ≠ lv z then decide (lv k < lv z) else decide (sndZ L k < sndZ L z) from rfl)
      have HSN := hide (fun (z : Nat) (hz : z < n) => sndZ_in L z (by rw [← HN.out]; exact hz))
      have HAT := hide (fun (z : Nat) (hz : z < n) => RK.out.at z (by rw [← HN.out]; exact hz))
      have HI := hide (HIN.out (k : Int) wr SKK.out)
      generalize firstK (usedB L skip) (aheadF L lv) k = z at *
      generalize hst : (L.getD k (0, 0)).1 = st at *
      have hyk : sndZ L k = (L.getD k (0, 0)).2 := HSN.out k hlt
      generalize (L.getD k (0, 0)).2 = u at *
      generalize lv (k : Int) = x at *
      clear hst
      by_cases hin : (k : Int) ∈ skip
      · rw [show decide ((k : Int) ∈ skip) = true from decide_eq_true hin] at HI HFN
        clear hin hyk
        go_wp2_with fail
        refine HI.out.mono ?_
        rintro e w1 ⟨rfl, rfl⟩
        go_wp2_with fail
        go_roundw
        case rel => exact ⟨k + 1, by omega, by go_num, by rw [HFN.out, if_neg (fun h => by simp at h)], BK.out⟩
        case measure => simp [intOf]; omega
      · rw [show decide ((k : Int) ∈ skip) = false from decide_eq_false hin] at HI HFN
        clear hin
        by_cases hst : st = 2
        · subst hst
          by_cases hz : z = -1
          · subst hz
            clear hyk
            go_wp2_with fail
            refine HI.out.mono ?_
            rintro e w1 ⟨rfl, rfl⟩
            go_wp2
            go_quiet (fail)
            go_wp2
            go_roundw
            case rel => exact ⟨k + 1, by omega, by go_num, by rw [HFN.out, if_pos (by simp)], BK.out.drewN _⟩
            case measure => simp [intOf]; omega
          · obtain ⟨zn, rfl⟩ : ∃ zn : Nat, (zn : Int) = z := ⟨z.toNat, by omega⟩
            have hzn : zn < n := by omega
            have hd0 : decide ((zn : Int) < 0) = false := decide_eq_false (by omega)
            have cz := LK.out.2 zn hzn
            obtain ⟨-, ctz, -, -⟩ := HAT.out zn hzn
            have hyz := HSN.out zn hzn
            have HA := hide (HAH.out (zn : Int))
            rw [hyk, hyz] at HA
            generalize (L.getD zn (0, 0)).2 = v at *
            generalize lv (zn : Int) = y at *
            generalize aheadF L lv (k : Int) (zn : Int) = ah at *
            clear hyk hyz
            by_cases hxy : x < y
            · have hd1 : decide (x < y) = true := decide_eq_true hxy
              have hah : ah = true := by rw [HA.out, if_pos (by omega)]; exact hd1
              subst hah
              go_wp2_with fail
              refine HI.out.mono ?_
              rintro e w1 ⟨rfl, rfl⟩
              go_wp2
              go_quiet (fail)
              go_wp2
              go_roundw
              case rel => exact ⟨k + 1, by omega, by go_num, by rw [HFN.out, if_pos (by simp)], BK.out.drewN _⟩
              case measure => simp [intOf]; omega
            · have hd1 : decide (x < y) = false := decide_eq_false hxy
              by_cases hxe : x = y
              · subst hxe
                by_cases huv : u < v
                · have hd2 : decide (u < v) = true := decide_eq_true huv
                  have hah : ah = true := by rw [HA.out, if_neg (fun h => h rfl)]; exact hd2
                  subst hah
                  go_wp2_with fail
                  refine HI.out.mono ?_
                  rintro e w1 ⟨rfl, rfl⟩
                  go_wp2
                  go_quiet (fail)
                  go_wp2
                  go_roundw
                  case rel => exact ⟨k + 1, by omega, by go_num, by rw [HFN.out, if_pos (by simp)], BK.out.drewN _⟩
                  case measure => simp [intOf]; omega
                · have hd2 : decide (u < v) = false := decide_eq_false huv
                  have hah : ah = false := by rw [HA.out, if_neg (fun h => h rfl)]; exact hd2
                  subst hah
                  go_wp2_with fail
                  refine HI.out.mono ?_
                  rintro e w1 ⟨rfl, rfl⟩
                  go_wp2
                  go_quiet (fail)
                  go_wp2
                  go_roundw
                  case rel => exact ⟨k + 1, by omega, by go_num, by rw [HFN.out, if_neg (fun h => h.2.elim hz (by decide))], BK.out.drewN _⟩
                  case measure => simp [intOf]; omega
              · have hd3 : (x == y) = false := by simp [hxe]
                have hah : ah = false := by rw [HA.out, if_pos hxe]; exact hd1
                subst hah
                go_wp2_with fail
                refine HI.out.mono ?_
                rintro e w1 ⟨rfl, rfl⟩
                go_wp2
                go_quiet (fail)
                go_wp2
                go_roundw
                case rel => exact ⟨k + 1, by omega, by go_num, by rw [HFN.out, if_neg (fun h => h.2.elim hz (by decide))], BK.out.drewN _⟩
                case measure => simp [intOf]; omega
        · have hd0 : decide (st = 2) = false := decide_eq_false hst
          clear hyk
          go_wp2_with fail
          refine HI.out.mono ?_
          rintro e w1 ⟨rfl, rfl⟩
          go_wp2_with fail
          go_roundw
          case rel => exact ⟨k + 1, by omega, by go_num, by rw [HFN.out, if_neg (fun h => by simp [hst] at h)], BK.out⟩
          case measure => simp [intOf]; omega
    · obtain rfl : k = n := by omega
      have hbd := firstK_bd (usedB L skip) (aheadF L lv) k
      by_cases hz : firstK (usedB L skip) (aheadF L lv) k = -1
      · have hz0 : firstK (usedB L skip) (aheadF L lv) k < 0 := by omega
        have HZ := hide hz
        clear hz
        go_wp2_with fail
        go_ret2
        exact ⟨ret_ib (by first | rfl | rw [if_pos HZ.out]) (by simp [HZ.out]), BK.out⟩
      · have hz0 : ¬ firstK (usedB L skip) (aheadF L lv) k < 0 := by omega
        have HZ := hide hz
        clear hz
        go_wp2_with fail
        go_ret2
        exact ⟨ret_ib (by first | rfl | rw [if_neg HZ.out]) (by simp [HZ.out]), BK.out⟩
end Go.Proofs.Ytpgogdnjddeagaa
