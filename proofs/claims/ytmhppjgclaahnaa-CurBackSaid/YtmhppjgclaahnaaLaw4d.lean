/-
  Layer 4: CurBack, the statement.
-/
import Derived.Test.YtmhppjgclaahnaaLaw4c
namespace Go.Proofs.Ytmhppjgclaahnaa
set_option linter.unusedSimpArgs false
set_option linter.unusedVariables false
open Go.RowKit Go.WideShapes Go.ChangeShapes Go.ChangeAt

set_option maxRecDepth 100000 in
set_option maxHeartbeats 4000000 in
theorem curBack_few (v : Value) (cut : Int) (w : World) (hc0 : 0 ≤ cut ∧ cut ≤ 65535) (L : List Fld) (a : Option Addr) (cap : Nat) (hv : v = .slice a L.length cap ∧ L.length ≤ cap ∧ cap ≤ 9223372036854775807 ∧ (∀ x ∈ L, FldOk x) ∧
    ∀ i, i < L.length → ∃ b off, a = some ⟨b, off, none⟩ ∧ b < w.heap.size ∧ w.cell? ⟨b, off + (i * 4), none⟩ = some (.int .i64 (L.getD i fld0).k) ∧ w.cell? ⟨b, off + (i * 4 + 1), none⟩ = some (.int .i64 (L.getD i fld0).w) ∧ w.cell? ⟨b, off + (i * 4 + 2), none⟩ = some (.int .u64 (L.getD i fld0).n) ∧ w.cell? ⟨b, off + (i * 4 + 3), none⟩ = some (.string (L.getD i fld0).s)) (hbig : L.length ≤ 20) :
    Calls Try.prog 10 #[v, .int .u16 cut] w fun e w' => e = .returned (.bool true) ∧ Below w.heap.size w w' := by
  obtain ⟨rfl, hc, hcm, hok, hat⟩ := hv
  have HOK := hide hok
  have HAT := hide hat
  clear hok hat
  · go_enter Try.func10, Try.ntmps10
    go_wp2_with fail
    obtain ⟨i0, hi, hz0, hz1, hz2⟩ := info_parts (show (Try.prog.info? 49).map (fun i => (i.zero, i.size, i.bytes)) = some (some (.agg #[.int .i64 0, .int .i64 0, .int .u64 0, .string ⟨#[]⟩]), 4, 40) by kernel_rfl)
    have HI := hide hi
    have HZ0 := hide hz0
    have HZ1 := hide hz1
    have HZ2 := hide hz2
    clear hi hz0 hz1 hz2
    go_loopw [5, 23] (fun v i W => ∃ (m : List Fld) (am : Option Addr) (cm : Nat), m.length ≤ L.length ∧ (∀ x ∈ m, BkGood x) ∧ i = .int .i64 m.length ∧ v = .slice am m.length cm ∧ W.ownsRow w.heap.size 49 4 (.slice am m.length cm) m.length (m.flatMap fc) ∧ Below w.heap.size w W) (fun _ i _ => L.length - (intOf i).toNat)
    case atStart => exact ⟨[], none, 0, by simp, by simp, rfl, rfl, World.ownsRow_nil _ _ _ _, Below.refl _ _⟩
    case round =>
      obtain ⟨m, am, cm, hk, hgood, rfl, rfl, hown, hB⟩ := hrel
      have HOWN := hide hown
      have HB := hide hB
      have HGOOD := hide hgood
      generalize hkk : m.length = k at *
      by_cases hlt : k < L.length
      · obtain ⟨b, off, rfl, hb, c0, c1, c2, c3⟩ := HAT.out k (by omega)
        have d0 : wr.cell? ⟨b, off + k * 4, none⟩ = some (.int .i64 (L.getD k fld0).k) := by rw [hB.cell (p := ⟨b, off + k * 4, none⟩) hb]; exact c0
        have d1 : wr.cell? ⟨b, off + k * 4 + 1, none⟩ = some (.int .i64 (L.getD k fld0).w) := by rw [hB.cell (p := ⟨b, off + k * 4 + 1, none⟩) hb]; exact c1
        have d2 : wr.cell? ⟨b, off + k * 4 + 2, none⟩ = some (.int .u64 (L.getD k fld0).n) := by rw [hB.cell (p := ⟨b, off + k * 4 + 2, none⟩) hb]; exact c2
        have d3 : wr.cell? ⟨b, off + k * 4 + 3, none⟩ = some (.string (L.getD k fld0).s) := by rw [hB.cell (p := ⟨b, off + k * 4 + 3, none⟩) hb]; exact c3
        have hox := hide (HOK.out _ (getD_mem L k (by omega)))
        have hbw : b < wr.heap.size := Nat.lt_of_lt_of_le hb hB.size
        generalize L.getD k fld0 = x at *
        have HOF := hide (fun W => of_any x hox.out W)
        have hfg := ofF_good hox.out
        obtain ⟨xk, xw, xn, xs⟩ := x
        generalize hyy : ofF ⟨xk, xw, xn, xs⟩ = y at *
        obtain ⟨yk, yw, yn, ys⟩ := y
        have HFG := hide hfg
        obtain ⟨⟨yk0, yk1⟩, ⟨yw0, yw1⟩, ⟨yn0, yn1⟩, hys⟩ := hfg
        simp only at d0 d1 d2 d3 yk0 yk1 yw0 yw1 yn0 yn1 hys
        simp only [fc] at HOF
        have HA := hide (HB.out.alloc HB.out.size (.cells #[.int .i64 xk, .int .i64 xw, .int .u64 xn, .string xs] 48))
        have HOA := hide (HOWN.out.alloc (.cells #[.int .i64 xk, .int .i64 xw, .int .u64 xn, .string xs] 48))
        obtain ⟨M, hM⟩ : ∃ M, m.flatMap fc = M := ⟨_, rfl⟩
        have HM := hide hM
        rw [hM] at HOWN HOA hown
        clear hB c0 c1 c2 c3 hb hown hyy hM hgood
        go_wp2_with fail
        refine (HOF.out _).mono ?_
        rintro e w2 ⟨rfl, hb2⟩
        have HA2 := hide (HA.out.trans (hb2.mono HA.out.size))
        have HO2 := hide (owns_below HOA.out hb2)
        clear hb2 hbw d0 d1 d2 d3 HA HOA HOF
        obtain ⟨zs, hzs, hzl⟩ : ∃ zs : ByteArray, (if 200 < ys.size then ys.extract 0 200 else ys) = zs ∧ zs.size ≤ 200 := ⟨_, rfl, by split <;> (try simp only [ByteArray.size_extract]) <;> omega⟩
        by_cases h200 : 200 < ys.size
        · rw [if_pos h200] at hzs
          subst hzs
          by_cases hk0 : yk = 0
          · subst hk0
            by_cases hyw : 0 < yw
            · have y1 : yw % 8 = yw.tmod 8 := by rw [Int.tmod_eq_emod_of_nonneg (by omega)]
              by_cases hlow : 1 + yw % 8 < 8
              · go_wp2_with fail
                have hq0 : 0 ≤ yw % 8 := by omega
                generalize yw % 8 = q at *
                clear y1
                obtain rfl | rfl | rfl | rfl | rfl | rfl | rfl : q = 0 ∨ q = 1 ∨ q = 2 ∨ q = 3 ∨ q = 4 ∨ q = 5 ∨ q = 6 := by omega
                · go_wp2_with fail
                  go_region
                  all_goals
                    have HA3 := hide ((HA2.out.alloc HA2.out.size (.cells #[.int .i64 0, .int .i64 1, .int .u64 (yn % 256), .string (ys.extract 0 200)] 49)).drew.alloc (HA2.out.alloc HA2.out.size (.cells #[.int .i64 0, .int .i64 1, .int .u64 (yn % 256), .string (ys.extract 0 200)] 49)).drew.size (.cells #[.int .i64 0, .int .i64 1, .int .u64 (yn % 256), .string (ys.extract 0 200)] 49))
                    have HO3 := hide ((HO2.out.alloc (.cells #[.int .i64 0, .int .i64 1, .int .u64 (yn % 256), .string (ys.extract 0 200)] 49)).drew.alloc (.cells #[.int .i64 0, .int .i64 1, .int .u64 (yn % 256), .string (ys.extract 0 200)] 49))
                    have HNEW := hide (new_row2d w2 (.cells #[.int .i64 0, .int .i64 1, .int .u64 (yn % 256), .string (ys.extract 0 200)] 49) ⟨0, 1, (yn % 256), (ys.extract 0 200)⟩)
                    have HONE := hide (show ∀ u ∈ [Value.int .i64 0, .int .i64 1, .int .u64 (yn % 256), .string (ys.extract 0 200)], u.oneCell' = true by intro u hu; simp at hu; rcases hu with rfl | rfl | rfl | rfl <;> rfl)
                    have HGE := hide (fun j (h : (Value.slice am k cm).ownBlock = some j) => (HO3.out.lt j h).1)
                    have HBK := hide (show BkGood ⟨0, 1, (yn % 256), (ys.extract 0 200)⟩ from good_zero (wd := 1) (by omega) (by omega) (by omega) (by omega) _ hzl (by show _ < 256; omega))
                    go_wp2_with (at_builtin; refine wpList_append_own _ rfl _ _ 46 rfl w.heap.size 49 i0 (.agg #[.int .i64 0, .int .i64 0, .int .u64 0, .string ⟨#[]⟩]) 4 40 Try.underlying46 HI.out HZ0.out HZ1.out HZ2.out rfl (by decide) (.slice am k cm) k M rfl HO3.out ⟨w2.heap.size + 1, 0, none⟩ 1 1 [.int .i64 0, .int .i64 1, .int .u64 (yn % 256), .string (ys.extract 0 200)] rfl rfl HNEW.out HONE.out (by unfold maxLen; omega) (by omega) HA3.out.size ?_; intro v' w' ho hgr hnil; obtain ⟨a2, c2, rfl⟩ := owns_slice_n ho; clear hnil; have HN := hide ho; have HBN := hide (HA3.out.grown hgr HA3.out.size HGE.out); clear ho hgr)
                    go_roundw
                    case rel => exact ⟨m ++ [⟨0, 1, (yn % 256), (ys.extract 0 200)⟩], a2, c2, by simp; omega, good_snoc HGOOD.out HBK.out, by rw [List.length_append, hkk]; go_num, by rw [List.length_append, hkk]; rfl, by rw [List.length_append, hkk, List.flatMap_append, HM.out]; exact HN.out, HBN.out⟩
                    case measure => simp [intOf]; omega
                · go_wp2_with fail
                  go_region
                  all_goals
                    have HA3 := hide ((HA2.out.alloc HA2.out.size (.cells #[.int .i64 0, .int .i64 2, .int .u64 (yn % 65536), .string (ys.extract 0 200)] 49)).drew.alloc (HA2.out.alloc HA2.out.size (.cells #[.int .i64 0, .int .i64 2, .int .u64 (yn % 65536), .string (ys.extract 0 200)] 49)).drew.size (.cells #[.int .i64 0, .int .i64 2, .int .u64 (yn % 65536), .string (ys.extract 0 200)] 49))
                    have HO3 := hide ((HO2.out.alloc (.cells #[.int .i64 0, .int .i64 2, .int .u64 (yn % 65536), .string (ys.extract 0 200)] 49)).drew.alloc (.cells #[.int .i64 0, .int .i64 2, .int .u64 (yn % 65536), .string (ys.extract 0 200)] 49))
                    have HNEW := hide (new_row2d w2 (.cells #[.int .i64 0, .int .i64 2, .int .u64 (yn % 65536), .string (ys.extract 0 200)] 49) ⟨0, 2, (yn % 65536), (ys.extract 0 200)⟩)
                    have HONE := hide (show ∀ u ∈ [Value.int .i64 0, .int .i64 2, .int .u64 (yn % 65536), .string (ys.extract 0 200)], u.oneCell' = true by intro u hu; simp at hu; rcases hu with rfl | rfl | rfl | rfl <;> rfl)
                    have HGE := hide (fun j (h : (Value.slice am k cm).ownBlock = some j) => (HO3.out.lt j h).1)
                    have HBK := hide (show BkGood ⟨0, 2, (yn % 65536), (ys.extract 0 200)⟩ from good_zero (wd := 2) (by omega) (by omega) (by omega) (by omega) _ hzl (by show _ < 65536; omega))
                    go_wp2_with (at_builtin; refine wpList_append_own _ rfl _ _ 46 rfl w.heap.size 49 i0 (.agg #[.int .i64 0, .int .i64 0, .int .u64 0, .string ⟨#[]⟩]) 4 40 Try.underlying46 HI.out HZ0.out HZ1.out HZ2.out rfl (by decide) (.slice am k cm) k M rfl HO3.out ⟨w2.heap.size + 1, 0, none⟩ 1 1 [.int .i64 0, .int .i64 2, .int .u64 (yn % 65536), .string (ys.extract 0 200)] rfl rfl HNEW.out HONE.out (by unfold maxLen; omega) (by omega) HA3.out.size ?_; intro v' w' ho hgr hnil; obtain ⟨a2, c2, rfl⟩ := owns_slice_n ho; clear hnil; have HN := hide ho; have HBN := hide (HA3.out.grown hgr HA3.out.size HGE.out); clear ho hgr)
                    go_roundw
                    case rel => exact ⟨m ++ [⟨0, 2, (yn % 65536), (ys.extract 0 200)⟩], a2, c2, by simp; omega, good_snoc HGOOD.out HBK.out, by rw [List.length_append, hkk]; go_num, by rw [List.length_append, hkk]; rfl, by rw [List.length_append, hkk, List.flatMap_append, HM.out]; exact HN.out, HBN.out⟩
                    case measure => simp [intOf]; omega
                · go_wp2_with fail
                  go_region
                  all_goals
                    have HA3 := hide ((HA2.out.alloc HA2.out.size (.cells #[.int .i64 0, .int .i64 3, .int .u64 (yn % 16777216), .string (ys.extract 0 200)] 49)).drew.alloc (HA2.out.alloc HA2.out.size (.cells #[.int .i64 0, .int .i64 3, .int .u64 (yn % 16777216), .string (ys.extract 0 200)] 49)).drew.size (.cells #[.int .i64 0, .int .i64 3, .int .u64 (yn % 16777216), .string (ys.extract 0 200)] 49))
                    have HO3 := hide ((HO2.out.alloc (.cells #[.int .i64 0, .int .i64 3, .int .u64 (yn % 16777216), .string (ys.extract 0 200)] 49)).drew.alloc (.cells #[.int .i64 0, .int .i64 3, .int .u64 (yn % 16777216), .string (ys.extract 0 200)] 49))
                    have HNEW := hide (new_row2d w2 (.cells #[.int .i64 0, .int .i64 3, .int .u64 (yn % 16777216), .string (ys.extract 0 200)] 49) ⟨0, 3, (yn % 16777216), (ys.extract 0 200)⟩)
                    have HONE := hide (show ∀ u ∈ [Value.int .i64 0, .int .i64 3, .int .u64 (yn % 16777216), .string (ys.extract 0 200)], u.oneCell' = true by intro u hu; simp at hu; rcases hu with rfl | rfl | rfl | rfl <;> rfl)
                    have HGE := hide (fun j (h : (Value.slice am k cm).ownBlock = some j) => (HO3.out.lt j h).1)
                    have HBK := hide (show BkGood ⟨0, 3, (yn % 16777216), (ys.extract 0 200)⟩ from good_zero (wd := 3) (by omega) (by omega) (by omega) (by omega) _ hzl (by show _ < 16777216; omega))
                    go_wp2_with (at_builtin; refine wpList_append_own _ rfl _ _ 46 rfl w.heap.size 49 i0 (.agg #[.int .i64 0, .int .i64 0, .int .u64 0, .string ⟨#[]⟩]) 4 40 Try.underlying46 HI.out HZ0.out HZ1.out HZ2.out rfl (by decide) (.slice am k cm) k M rfl HO3.out ⟨w2.heap.size + 1, 0, none⟩ 1 1 [.int .i64 0, .int .i64 3, .int .u64 (yn % 16777216), .string (ys.extract 0 200)] rfl rfl HNEW.out HONE.out (by unfold maxLen; omega) (by omega) HA3.out.size ?_; intro v' w' ho hgr hnil; obtain ⟨a2, c2, rfl⟩ := owns_slice_n ho; clear hnil; have HN := hide ho; have HBN := hide (HA3.out.grown hgr HA3.out.size HGE.out); clear ho hgr)
                    go_roundw
                    case rel => exact ⟨m ++ [⟨0, 3, (yn % 16777216), (ys.extract 0 200)⟩], a2, c2, by simp; omega, good_snoc HGOOD.out HBK.out, by rw [List.length_append, hkk]; go_num, by rw [List.length_append, hkk]; rfl, by rw [List.length_append, hkk, List.flatMap_append, HM.out]; exact HN.out, HBN.out⟩
                    case measure => simp [intOf]; omega
                · go_wp2_with fail
                  go_region
                  all_goals
                    have HA3 := hide ((HA2.out.alloc HA2.out.size (.cells #[.int .i64 0, .int .i64 4, .int .u64 (yn % 4294967296), .string (ys.extract 0 200)] 49)).drew.alloc (HA2.out.alloc HA2.out.size (.cells #[.int .i64 0, .int .i64 4, .int .u64 (yn % 4294967296), .string (ys.extract 0 200)] 49)).drew.size (.cells #[.int .i64 0, .int .i64 4, .int .u64 (yn % 4294967296), .string (ys.extract 0 200)] 49))
                    have HO3 := hide ((HO2.out.alloc (.cells #[.int .i64 0, .int .i64 4, .int .u64 (yn % 4294967296), .string (ys.extract 0 200)] 49)).drew.alloc (.cells #[.int .i64 0, .int .i64 4, .int .u64 (yn % 4294967296), .string (ys.extract 0 200)] 49))
                    have HNEW := hide (new_row2d w2 (.cells #[.int .i64 0, .int .i64 4, .int .u64 (yn % 4294967296), .string (ys.extract 0 200)] 49) ⟨0, 4, (yn % 4294967296), (ys.extract 0 200)⟩)
                    have HONE := hide (show ∀ u ∈ [Value.int .i64 0, .int .i64 4, .int .u64 (yn % 4294967296), .string (ys.extract 0 200)], u.oneCell' = true by intro u hu; simp at hu; rcases hu with rfl | rfl | rfl | rfl <;> rfl)
                    have HGE := hide (fun j (h : (Value.slice am k cm).ownBlock = some j) => (HO3.out.lt j h).1)
                    have HBK := hide (show BkGood ⟨0, 4, (yn % 4294967296), (ys.extract 0 200)⟩ from good_zero (wd := 4) (by omega) (by omega) (by omega) (by omega) _ hzl (by show _ < 4294967296; omega))
                    go_wp2_with (at_builtin; refine wpList_append_own _ rfl _ _ 46 rfl w.heap.size 49 i0 (.agg #[.int .i64 0, .int .i64 0, .int .u64 0, .string ⟨#[]⟩]) 4 40 Try.underlying46 HI.out HZ0.out HZ1.out HZ2.out rfl (by decide) (.slice am k cm) k M rfl HO3.out ⟨w2.heap.size + 1, 0, none⟩ 1 1 [.int .i64 0, .int .i64 4, .int .u64 (yn % 4294967296), .string (ys.extract 0 200)] rfl rfl HNEW.out HONE.out (by unfold maxLen; omega) (by omega) HA3.out.size ?_; intro v' w' ho hgr hnil; obtain ⟨a2, c2, rfl⟩ := owns_slice_n ho; clear hnil; have HN := hide ho; have HBN := hide (HA3.out.grown hgr HA3.out.size HGE.out); clear ho hgr)
                    go_roundw
                    case rel => exact ⟨m ++ [⟨0, 4, (yn % 4294967296), (ys.extract 0 200)⟩], a2, c2, by simp; omega, good_snoc HGOOD.out HBK.out, by rw [List.length_append, hkk]; go_num, by rw [List.length_append, hkk]; rfl, by rw [List.length_append, hkk, List.flatMap_append, HM.out]; exact HN.out, HBN.out⟩
                    case measure => simp [intOf]; omega
                · go_wp2_with fail
                  go_region
                  all_goals
                    have HA3 := hide ((HA2.out.alloc HA2.out.size (.cells #[.int .i64 0, .int .i64 5, .int .u64 (yn % 1099511627776), .string (ys.extract 0 200)] 49)).drew.alloc (HA2.out.alloc HA2.out.size (.cells #[.int .i64 0, .int .i64 5, .int .u64 (yn % 1099511627776), .string (ys.extract 0 200)] 49)).drew.size (.cells #[.int .i64 0, .int .i64 5, .int .u64 (yn % 1099511627776), .string (ys.extract 0 200)] 49))
                    have HO3 := hide ((HO2.out.alloc (.cells #[.int .i64 0, .int .i64 5, .int .u64 (yn % 1099511627776), .string (ys.extract 0 200)] 49)).drew.alloc (.cells #[.int .i64 0, .int .i64 5, .int .u64 (yn % 1099511627776), .string (ys.extract 0 200)] 49))
                    have HNEW := hide (new_row2d w2 (.cells #[.int .i64 0, .int .i64 5, .int .u64 (yn % 1099511627776), .string (ys.extract 0 200)] 49) ⟨0, 5, (yn % 1099511627776), (ys.extract 0 200)⟩)
                    have HONE := hide (show ∀ u ∈ [Value.int .i64 0, .int .i64 5, .int .u64 (yn % 1099511627776), .string (ys.extract 0 200)], u.oneCell' = true by intro u hu; simp at hu; rcases hu with rfl | rfl | rfl | rfl <;> rfl)
                    have HGE := hide (fun j (h : (Value.slice am k cm).ownBlock = some j) => (HO3.out.lt j h).1)
                    have HBK := hide (show BkGood ⟨0, 5, (yn % 1099511627776), (ys.extract 0 200)⟩ from good_zero (wd := 5) (by omega) (by omega) (by omega) (by omega) _ hzl (by show _ < 1099511627776; omega))
                    go_wp2_with (at_builtin; refine wpList_append_own _ rfl _ _ 46 rfl w.heap.size 49 i0 (.agg #[.int .i64 0, .int .i64 0, .int .u64 0, .string ⟨#[]⟩]) 4 40 Try.underlying46 HI.out HZ0.out HZ1.out HZ2.out rfl (by decide) (.slice am k cm) k M rfl HO3.out ⟨w2.heap.size + 1, 0, none⟩ 1 1 [.int .i64 0, .int .i64 5, .int .u64 (yn % 1099511627776), .string (ys.extract 0 200)] rfl rfl HNEW.out HONE.out (by unfold maxLen; omega) (by omega) HA3.out.size ?_; intro v' w' ho hgr hnil; obtain ⟨a2, c2, rfl⟩ := owns_slice_n ho; clear hnil; have HN := hide ho; have HBN := hide (HA3.out.grown hgr HA3.out.size HGE.out); clear ho hgr)
                    go_roundw
                    case rel => exact ⟨m ++ [⟨0, 5, (yn % 1099511627776), (ys.extract 0 200)⟩], a2, c2, by simp; omega, good_snoc HGOOD.out HBK.out, by rw [List.length_append, hkk]; go_num, by rw [List.length_append, hkk]; rfl, by rw [List.length_append, hkk, List.flatMap_append, HM.out]; exact HN.out, HBN.out⟩
                    case measure => simp [intOf]; omega
                · go_wp2_with fail
                  go_region
                  all_goals
                    have HA3 := hide ((HA2.out.alloc HA2.out.size (.cells #[.int .i64 0, .int .i64 6, .int .u64 (yn % 281474976710656), .string (ys.extract 0 200)] 49)).drew.alloc (HA2.out.alloc HA2.out.size (.cells #[.int .i64 0, .int .i64 6, .int .u64 (yn % 281474976710656), .string (ys.extract 0 200)] 49)).drew.size (.cells #[.int .i64 0, .int .i64 6, .int .u64 (yn % 281474976710656), .string (ys.extract 0 200)] 49))
                    have HO3 := hide ((HO2.out.alloc (.cells #[.int .i64 0, .int .i64 6, .int .u64 (yn % 281474976710656), .string (ys.extract 0 200)] 49)).drew.alloc (.cells #[.int .i64 0, .int .i64 6, .int .u64 (yn % 281474976710656), .string (ys.extract 0 200)] 49))
                    have HNEW := hide (new_row2d w2 (.cells #[.int .i64 0, .int .i64 6, .int .u64 (yn % 281474976710656), .string (ys.extract 0 200)] 49) ⟨0, 6, (yn % 281474976710656), (ys.extract 0 200)⟩)
                    have HONE := hide (show ∀ u ∈ [Value.int .i64 0, .int .i64 6, .int .u64 (yn % 281474976710656), .string (ys.extract 0 200)], u.oneCell' = true by intro u hu; simp at hu; rcases hu with rfl | rfl | rfl | rfl <;> rfl)
                    have HGE := hide (fun j (h : (Value.slice am k cm).ownBlock = some j) => (HO3.out.lt j h).1)
                    have HBK := hide (show BkGood ⟨0, 6, (yn % 281474976710656), (ys.extract 0 200)⟩ from good_zero (wd := 6) (by omega) (by omega) (by omega) (by omega) _ hzl (by show _ < 281474976710656; omega))
                    go_wp2_with (at_builtin; refine wpList_append_own _ rfl _ _ 46 rfl w.heap.size 49 i0 (.agg #[.int .i64 0, .int .i64 0, .int .u64 0, .string ⟨#[]⟩]) 4 40 Try.underlying46 HI.out HZ0.out HZ1.out HZ2.out rfl (by decide) (.slice am k cm) k M rfl HO3.out ⟨w2.heap.size + 1, 0, none⟩ 1 1 [.int .i64 0, .int .i64 6, .int .u64 (yn % 281474976710656), .string (ys.extract 0 200)] rfl rfl HNEW.out HONE.out (by unfold maxLen; omega) (by omega) HA3.out.size ?_; intro v' w' ho hgr hnil; obtain ⟨a2, c2, rfl⟩ := owns_slice_n ho; clear hnil; have HN := hide ho; have HBN := hide (HA3.out.grown hgr HA3.out.size HGE.out); clear ho hgr)
                    go_roundw
                    case rel => exact ⟨m ++ [⟨0, 6, (yn % 281474976710656), (ys.extract 0 200)⟩], a2, c2, by simp; omega, good_snoc HGOOD.out HBK.out, by rw [List.length_append, hkk]; go_num, by rw [List.length_append, hkk]; rfl, by rw [List.length_append, hkk, List.flatMap_append, HM.out]; exact HN.out, HBN.out⟩
                    case measure => simp [intOf]; omega
                · go_wp2_with fail
                  go_region
                  all_goals
                    have HA3 := hide ((HA2.out.alloc HA2.out.size (.cells #[.int .i64 0, .int .i64 7, .int .u64 (yn % 72057594037927936), .string (ys.extract 0 200)] 49)).drew.alloc (HA2.out.alloc HA2.out.size (.cells #[.int .i64 0, .int .i64 7, .int .u64 (yn % 72057594037927936), .string (ys.extract 0 200)] 49)).drew.size (.cells #[.int .i64 0, .int .i64 7, .int .u64 (yn % 72057594037927936), .string (ys.extract 0 200)] 49))
                    have HO3 := hide ((HO2.out.alloc (.cells #[.int .i64 0, .int .i64 7, .int .u64 (yn % 72057594037927936), .string (ys.extract 0 200)] 49)).drew.alloc (.cells #[.int .i64 0, .int .i64 7, .int .u64 (yn % 72057594037927936), .string (ys.extract 0 200)] 49))
                    have HNEW := hide (new_row2d w2 (.cells #[.int .i64 0, .int .i64 7, .int .u64 (yn % 72057594037927936), .string (ys.extract 0 200)] 49) ⟨0, 7, (yn % 72057594037927936), (ys.extract 0 200)⟩)
                    have HONE := hide (show ∀ u ∈ [Value.int .i64 0, .int .i64 7, .int .u64 (yn % 72057594037927936), .string (ys.extract 0 200)], u.oneCell' = true by intro u hu; simp at hu; rcases hu with rfl | rfl | rfl | rfl <;> rfl)
                    have HGE := hide (fun j (h : (Value.slice am k cm).ownBlock = some j) => (HO3.out.lt j h).1)
                    have HBK := hide (show BkGood ⟨0, 7, (yn % 72057594037927936), (ys.extract 0 200)⟩ from good_zero (wd := 7) (by omega) (by omega) (by omega) (by omega) _ hzl (by show _ < 72057594037927936; omega))
                    go_wp2_with (at_builtin; refine wpList_append_own _ rfl _ _ 46 rfl w.heap.size 49 i0 (.agg #[.int .i64 0, .int .i64 0, .int .u64 0, .string ⟨#[]⟩]) 4 40 Try.underlying46 HI.out HZ0.out HZ1.out HZ2.out rfl (by decide) (.slice am k cm) k M rfl HO3.out ⟨w2.heap.size + 1, 0, none⟩ 1 1 [.int .i64 0, .int .i64 7, .int .u64 (yn % 72057594037927936), .string (ys.extract 0 200)] rfl rfl HNEW.out HONE.out (by unfold maxLen; omega) (by omega) HA3.out.size ?_; intro v' w' ho hgr hnil; obtain ⟨a2, c2, rfl⟩ := owns_slice_n ho; clear hnil; have HN := hide ho; have HBN := hide (HA3.out.grown hgr HA3.out.size HGE.out); clear ho hgr)
                    go_roundw
                    case rel => exact ⟨m ++ [⟨0, 7, (yn % 72057594037927936), (ys.extract 0 200)⟩], a2, c2, by simp; omega, good_snoc HGOOD.out HBK.out, by rw [List.length_append, hkk]; go_num, by rw [List.length_append, hkk]; rfl, by rw [List.length_append, hkk, List.flatMap_append, HM.out]; exact HN.out, HBN.out⟩
                    case measure => simp [intOf]; omega
              · have e8 : (1 + yw % 8).toNat = 8 := by omega
                have HA3 := hide ((HA2.out.alloc HA2.out.size (.cells #[.int .i64 0, .int .i64 (1 + yw % 8), .int .u64 yn, .string (ys.extract 0 200)] 49)).alloc (HA2.out.alloc HA2.out.size (.cells #[.int .i64 0, .int .i64 (1 + yw % 8), .int .u64 yn, .string (ys.extract 0 200)] 49)).size (.cells #[.int .i64 0, .int .i64 (1 + yw % 8), .int .u64 yn, .string (ys.extract 0 200)] 49))
                have HO3 := hide ((HO2.out.alloc (.cells #[.int .i64 0, .int .i64 (1 + yw % 8), .int .u64 yn, .string (ys.extract 0 200)] 49)).alloc (.cells #[.int .i64 0, .int .i64 (1 + yw % 8), .int .u64 yn, .string (ys.extract 0 200)] 49))
                have HNEW := hide (new_row2 w2 (.cells #[.int .i64 0, .int .i64 (1 + yw % 8), .int .u64 yn, .string (ys.extract 0 200)] 49) ⟨0, (1 + yw % 8), yn, (ys.extract 0 200)⟩)
                have HONE := hide (show ∀ u ∈ [Value.int .i64 0, .int .i64 (1 + yw % 8), .int .u64 yn, .string (ys.extract 0 200)], u.oneCell' = true by intro u hu; simp at hu; rcases hu with rfl | rfl | rfl | rfl <;> rfl)
                have HGE := hide (fun j (h : (Value.slice am k cm).ownBlock = some j) => (HO3.out.lt j h).1)
                have HBK := hide (show BkGood ⟨0, (1 + yw % 8), yn, (ys.extract 0 200)⟩ from good_zero (wd := 1 + yw % 8) yn0 yn1 (by omega) (by omega) _ hzl (by rw [e8]; omega))
                go_wp2_with (at_builtin; refine wpList_append_own _ rfl _ _ 46 rfl w.heap.size 49 i0 (.agg #[.int .i64 0, .int .i64 0, .int .u64 0, .string ⟨#[]⟩]) 4 40 Try.underlying46 HI.out HZ0.out HZ1.out HZ2.out rfl (by decide) (.slice am k cm) k M rfl HO3.out ⟨w2.heap.size + 1, 0, none⟩ 1 1 [.int .i64 0, .int .i64 (1 + yw % 8), .int .u64 yn, .string (ys.extract 0 200)] rfl rfl HNEW.out HONE.out (by unfold maxLen; omega) (by omega) HA3.out.size ?_; intro v' w' ho hgr hnil; obtain ⟨a2, c2, rfl⟩ := owns_slice_n ho; clear hnil; have HN := hide ho; have HBN := hide (HA3.out.grown hgr HA3.out.size HGE.out); clear ho hgr)
                go_roundw
                case rel => exact ⟨m ++ [⟨0, (1 + yw % 8), yn, (ys.extract 0 200)⟩], a2, c2, by simp; omega, good_snoc HGOOD.out HBK.out, by rw [List.length_append, hkk]; go_num, by rw [List.length_append, hkk]; rfl, by rw [List.length_append, hkk, List.flatMap_append, HM.out]; exact HN.out, HBN.out⟩
                case measure => simp [intOf]; omega
            · have hyw' : ¬ 0 < yw := hyw
              go_wp2_with fail
              go_region
              all_goals
                have HA3 := hide ((HA2.out.alloc HA2.out.size (.cells #[.int .i64 0, .int .i64 1, .int .u64 (yn % 256), .string (ys.extract 0 200)] 49)).drew.alloc (HA2.out.alloc HA2.out.size (.cells #[.int .i64 0, .int .i64 1, .int .u64 (yn % 256), .string (ys.extract 0 200)] 49)).drew.size (.cells #[.int .i64 0, .int .i64 1, .int .u64 (yn % 256), .string (ys.extract 0 200)] 49))
                have HO3 := hide ((HO2.out.alloc (.cells #[.int .i64 0, .int .i64 1, .int .u64 (yn % 256), .string (ys.extract 0 200)] 49)).drew.alloc (.cells #[.int .i64 0, .int .i64 1, .int .u64 (yn % 256), .string (ys.extract 0 200)] 49))
                have HNEW := hide (new_row2d w2 (.cells #[.int .i64 0, .int .i64 1, .int .u64 (yn % 256), .string (ys.extract 0 200)] 49) ⟨0, 1, (yn % 256), (ys.extract 0 200)⟩)
                have HONE := hide (show ∀ u ∈ [Value.int .i64 0, .int .i64 1, .int .u64 (yn % 256), .string (ys.extract 0 200)], u.oneCell' = true by intro u hu; simp at hu; rcases hu with rfl | rfl | rfl | rfl <;> rfl)
                have HGE := hide (fun j (h : (Value.slice am k cm).ownBlock = some j) => (HO3.out.lt j h).1)
                have HBK := hide (show BkGood ⟨0, 1, (yn % 256), (ys.extract 0 200)⟩ from good_zero (wd := 1) (by omega) (by omega) (by omega) (by omega) _ hzl (by show _ < 256; omega))
                go_wp2_with (at_builtin; refine wpList_append_own _ rfl _ _ 46 rfl w.heap.size 49 i0 (.agg #[.int .i64 0, .int .i64 0, .int .u64 0, .string ⟨#[]⟩]) 4 40 Try.underlying46 HI.out HZ0.out HZ1.out HZ2.out rfl (by decide) (.slice am k cm) k M rfl HO3.out ⟨w2.heap.size + 1, 0, none⟩ 1 1 [.int .i64 0, .int .i64 1, .int .u64 (yn % 256), .string (ys.extract 0 200)] rfl rfl HNEW.out HONE.out (by unfold maxLen; omega) (by omega) HA3.out.size ?_; intro v' w' ho hgr hnil; obtain ⟨a2, c2, rfl⟩ := owns_slice_n ho; clear hnil; have HN := hide ho; have HBN := hide (HA3.out.grown hgr HA3.out.size HGE.out); clear ho hgr)
                go_roundw
                case rel => exact ⟨m ++ [⟨0, 1, (yn % 256), (ys.extract 0 200)⟩], a2, c2, by simp; omega, good_snoc HGOOD.out HBK.out, by rw [List.length_append, hkk]; go_num, by rw [List.length_append, hkk]; rfl, by rw [List.length_append, hkk, List.flatMap_append, HM.out]; exact HN.out, HBN.out⟩
                case measure => simp [intOf]; omega
          · have hk0' : ¬ yk = 0 := hk0
            have HA3 := hide ((HA2.out.alloc HA2.out.size (.cells #[.int .i64 yk, .int .i64 yw, .int .u64 yn, .string (ys.extract 0 200)] 49)).alloc (HA2.out.alloc HA2.out.size (.cells #[.int .i64 yk, .int .i64 yw, .int .u64 yn, .string (ys.extract 0 200)] 49)).size (.cells #[.int .i64 yk, .int .i64 yw, .int .u64 yn, .string (ys.extract 0 200)] 49))
            have HO3 := hide ((HO2.out.alloc (.cells #[.int .i64 yk, .int .i64 yw, .int .u64 yn, .string (ys.extract 0 200)] 49)).alloc (.cells #[.int .i64 yk, .int .i64 yw, .int .u64 yn, .string (ys.extract 0 200)] 49))
            have HNEW := hide (new_row2 w2 (.cells #[.int .i64 yk, .int .i64 yw, .int .u64 yn, .string (ys.extract 0 200)] 49) ⟨yk, yw, yn, (ys.extract 0 200)⟩)
            have HONE := hide (show ∀ u ∈ [Value.int .i64 yk, .int .i64 yw, .int .u64 yn, .string (ys.extract 0 200)], u.oneCell' = true by intro u hu; simp at hu; rcases hu with rfl | rfl | rfl | rfl <;> rfl)
            have HGE := hide (fun j (h : (Value.slice am k cm).ownBlock = some j) => (HO3.out.lt j h).1)
            have HBK := hide (show BkGood ⟨yk, yw, yn, (ys.extract 0 200)⟩ from good_end HFG.out hk0 _ hzl)
            go_wp2_with (at_builtin; refine wpList_append_own _ rfl _ _ 46 rfl w.heap.size 49 i0 (.agg #[.int .i64 0, .int .i64 0, .int .u64 0, .string ⟨#[]⟩]) 4 40 Try.underlying46 HI.out HZ0.out HZ1.out HZ2.out rfl (by decide) (.slice am k cm) k M rfl HO3.out ⟨w2.heap.size + 1, 0, none⟩ 1 1 [.int .i64 yk, .int .i64 yw, .int .u64 yn, .string (ys.extract 0 200)] rfl rfl HNEW.out HONE.out (by unfold maxLen; omega) (by omega) HA3.out.size ?_; intro v' w' ho hgr hnil; obtain ⟨a2, c2, rfl⟩ := owns_slice_n ho; clear hnil; have HN := hide ho; have HBN := hide (HA3.out.grown hgr HA3.out.size HGE.out); clear ho hgr)
            go_roundw
            case rel => exact ⟨m ++ [⟨yk, yw, yn, (ys.extract 0 200)⟩], a2, c2, by simp; omega, good_snoc HGOOD.out HBK.out, by rw [List.length_append, hkk]; go_num, by rw [List.length_append, hkk]; rfl, by rw [List.length_append, hkk, List.flatMap_append, HM.out]; exact HN.out, HBN.out⟩
            case measure => simp [intOf]; omega
        · rw [if_neg h200] at hzs
          subst hzs
          by_cases hk0 : yk = 0
          · subst hk0
            by_cases hyw : 0 < yw
            · have y1 : yw % 8 = yw.tmod 8 := by rw [Int.tmod_eq_emod_of_nonneg (by omega)]
              by_cases hlow : 1 + yw % 8 < 8
              · go_wp2_with fail
                have hq0 : 0 ≤ yw % 8 := by omega
                generalize yw % 8 = q at *
                clear y1
                obtain rfl | rfl | rfl | rfl | rfl | rfl | rfl : q = 0 ∨ q = 1 ∨ q = 2 ∨ q = 3 ∨ q = 4 ∨ q = 5 ∨ q = 6 := by omega
                · go_wp2_with fail
                  go_region
                  all_goals
                    have HA3 := hide ((HA2.out.alloc HA2.out.size (.cells #[.int .i64 0, .int .i64 1, .int .u64 (yn % 256), .string ys] 49)).drew.alloc (HA2.out.alloc HA2.out.size (.cells #[.int .i64 0, .int .i64 1, .int .u64 (yn % 256), .string ys] 49)).drew.size (.cells #[.int .i64 0, .int .i64 1, .int .u64 (yn % 256), .string ys] 49))
                    have HO3 := hide ((HO2.out.alloc (.cells #[.int .i64 0, .int .i64 1, .int .u64 (yn % 256), .string ys] 49)).drew.alloc (.cells #[.int .i64 0, .int .i64 1, .int .u64 (yn % 256), .string ys] 49))
                    have HNEW := hide (new_row2d w2 (.cells #[.int .i64 0, .int .i64 1, .int .u64 (yn % 256), .string ys] 49) ⟨0, 1, (yn % 256), ys⟩)
                    have HONE := hide (show ∀ u ∈ [Value.int .i64 0, .int .i64 1, .int .u64 (yn % 256), .string ys], u.oneCell' = true by intro u hu; simp at hu; rcases hu with rfl | rfl | rfl | rfl <;> rfl)
                    have HGE := hide (fun j (h : (Value.slice am k cm).ownBlock = some j) => (HO3.out.lt j h).1)
                    have HBK := hide (show BkGood ⟨0, 1, (yn % 256), ys⟩ from good_zero (wd := 1) (by omega) (by omega) (by omega) (by omega) _ hzl (by show _ < 256; omega))
                    go_wp2_with (at_builtin; refine wpList_append_own _ rfl _ _ 46 rfl w.heap.size 49 i0 (.agg #[.int .i64 0, .int .i64 0, .int .u64 0, .string ⟨#[]⟩]) 4 40 Try.underlying46 HI.out HZ0.out HZ1.out HZ2.out rfl (by decide) (.slice am k cm) k M rfl HO3.out ⟨w2.heap.size + 1, 0, none⟩ 1 1 [.int .i64 0, .int .i64 1, .int .u64 (yn % 256), .string ys] rfl rfl HNEW.out HONE.out (by unfold maxLen; omega) (by omega) HA3.out.size ?_; intro v' w' ho hgr hnil; obtain ⟨a2, c2, rfl⟩ := owns_slice_n ho; clear hnil; have HN := hide ho; have HBN := hide (HA3.out.grown hgr HA3.out.size HGE.out); clear ho hgr)
                    go_roundw
                    case rel => exact ⟨m ++ [⟨0, 1, (yn % 256), ys⟩], a2, c2, by simp; omega, good_snoc HGOOD.out HBK.out, by rw [List.length_append, hkk]; go_num, by rw [List.length_append, hkk]; rfl, by rw [List.length_append, hkk, List.flatMap_append, HM.out]; exact HN.out, HBN.out⟩
                    case measure => simp [intOf]; omega
                · go_wp2_with fail
                  go_region
                  all_goals
                    have HA3 := hide ((HA2.out.alloc HA2.out.size (.cells #[.int .i64 0, .int .i64 2, .int .u64 (yn % 65536), .string ys] 49)).drew.alloc (HA2.out.alloc HA2.out.size (.cells #[.int .i64 0, .int .i64 2, .int .u64 (yn % 65536), .string ys] 49)).drew.size (.cells #[.int .i64 0, .int .i64 2, .int .u64 (yn % 65536), .string ys] 49))
                    have HO3 := hide ((HO2.out.alloc (.cells #[.int .i64 0, .int .i64 2, .int .u64 (yn % 65536), .string ys] 49)).drew.alloc (.cells #[.int .i64 0, .int .i64 2, .int .u64 (yn % 65536), .string ys] 49))
                    have HNEW := hide (new_row2d w2 (.cells #[.int .i64 0, .int .i64 2, .int .u64 (yn % 65536), .string ys] 49) ⟨0, 2, (yn % 65536), ys⟩)
                    have HONE := hide (show ∀ u ∈ [Value.int .i64 0, .int .i64 2, .int .u64 (yn % 65536), .string ys], u.oneCell' = true by intro u hu; simp at hu; rcases hu with rfl | rfl | rfl | rfl <;> rfl)
                    have HGE := hide (fun j (h : (Value.slice am k cm).ownBlock = some j) => (HO3.out.lt j h).1)
                    have HBK := hide (show BkGood ⟨0, 2, (yn % 65536), ys⟩ from good_zero (wd := 2) (by omega) (by omega) (by omega) (by omega) _ hzl (by show _ < 65536; omega))
                    go_wp2_with (at_builtin; refine wpList_append_own _ rfl _ _ 46 rfl w.heap.size 49 i0 (.agg #[.int .i64 0, .int .i64 0, .int .u64 0, .string ⟨#[]⟩]) 4 40 Try.underlying46 HI.out HZ0.out HZ1.out HZ2.out rfl (by decide) (.slice am k cm) k M rfl HO3.out ⟨w2.heap.size + 1, 0, none⟩ 1 1 [.int .i64 0, .int .i64 2, .int .u64 (yn % 65536), .string ys] rfl rfl HNEW.out HONE.out (by unfold maxLen; omega) (by omega) HA3.out.size ?_; intro v' w' ho hgr hnil; obtain ⟨a2, c2, rfl⟩ := owns_slice_n ho; clear hnil; have HN := hide ho; have HBN := hide (HA3.out.grown hgr HA3.out.size HGE.out); clear ho hgr)
                    go_roundw
                    case rel => exact ⟨m ++ [⟨0, 2, (yn % 65536), ys⟩], a2, c2, by simp; omega, good_snoc HGOOD.out HBK.out, by rw [List.length_append, hkk]; go_num, by rw [List.length_append, hkk]; rfl, by rw [List.length_append, hkk, List.flatMap_append, HM.out]; exact HN.out, HBN.out⟩
                    case measure => simp [intOf]; omega
                · go_wp2_with fail
                  go_region
                  all_goals
                    have HA3 := hide ((HA2.out.alloc HA2.out.size (.cells #[.int .i64 0, .int .i64 3, .int .u64 (yn % 16777216), .string ys] 49)).drew.alloc (HA2.out.alloc HA2.out.size (.cells #[.int .i64 0, .int .i64 3, .int .u64 (yn % 16777216), .string ys] 49)).drew.size (.cells #[.int .i64 0, .int .i64 3, .int .u64 (yn % 16777216), .string ys] 49))
                    have HO3 := hide ((HO2.out.alloc (.cells #[.int .i64 0, .int .i64 3, .int .u64 (yn % 16777216), .string ys] 49)).drew.alloc (.cells #[.int .i64 0, .int .i64 3, .int .u64 (yn % 16777216), .string ys] 49))
                    have HNEW := hide (new_row2d w2 (.cells #[.int .i64 0, .int .i64 3, .int .u64 (yn % 16777216), .string ys] 49) ⟨0, 3, (yn % 16777216), ys⟩)
                    have HONE := hide (show ∀ u ∈ [Value.int .i64 0, .int .i64 3, .int .u64 (yn % 16777216), .string ys], u.oneCell' = true by intro u hu; simp at hu; rcases hu with rfl | rfl | rfl | rfl <;> rfl)
                    have HGE := hide (fun j (h : (Value.slice am k cm).ownBlock = some j) => (HO3.out.lt j h).1)
                    have HBK := hide (show BkGood ⟨0, 3, (yn % 16777216), ys⟩ from good_zero (wd := 3) (by omega) (by omega) (by omega) (by omega) _ hzl (by show _ < 16777216; omega))
                    go_wp2_with (at_builtin; refine wpList_append_own _ rfl _ _ 46 rfl w.heap.size 49 i0 (.agg #[.int .i64 0, .int .i64 0, .int .u64 0, .string ⟨#[]⟩]) 4 40 Try.underlying46 HI.out HZ0.out HZ1.out HZ2.out rfl (by decide) (.slice am k cm) k M rfl HO3.out ⟨w2.heap.size + 1, 0, none⟩ 1 1 [.int .i64 0, .int .i64 3, .int .u64 (yn % 16777216), .string ys] rfl rfl HNEW.out HONE.out (by unfold maxLen; omega) (by omega) HA3.out.size ?_; intro v' w' ho hgr hnil; obtain ⟨a2, c2, rfl⟩ := owns_slice_n ho; clear hnil; have HN := hide ho; have HBN := hide (HA3.out.grown hgr HA3.out.size HGE.out); clear ho hgr)
                    go_roundw
                    case rel => exact ⟨m ++ [⟨0, 3, (yn % 16777216), ys⟩], a2, c2, by simp; omega, good_snoc HGOOD.out HBK.out, by rw [List.length_append, hkk]; go_num, by rw [List.length_append, hkk]; rfl, by rw [List.length_append, hkk, List.flatMap_append, HM.out]; exact HN.out, HBN.out⟩
                    case measure => simp [intOf]; omega
                · go_wp2_with fail
                  go_region
                  all_goals
                    have HA3 := hide ((HA2.out.alloc HA2.out.size (.cells #[.int .i64 0, .int .i64 4, .int .u64 (yn % 4294967296), .string ys] 49)).drew.alloc (HA2.out.alloc HA2.out.size (.cells #[.int .i64 0, .int .i64 4, .int .u64 (yn % 4294967296), .string ys] 49)).drew.size (.cells #[.int .i64 0, .int .i64 4, .int .u64 (yn % 4294967296), .string ys] 49))
                    have HO3 := hide ((HO2.out.alloc (.cells #[.int .i64 0, .int .i64 4, .int .u64 (yn % 4294967296), .string ys] 49)).drew.alloc (.cells #[.int .i64 0, .int .i64 4, .int .u64 (yn % 4294967296), .string ys] 49))
                    have HNEW := hide (new_row2d w2 (.cells #[.int .i64 0, .int .i64 4, .int .u64 (yn % 4294967296), .string ys] 49) ⟨0, 4, (yn % 4294967296), ys⟩)
                    have HONE := hide (show ∀ u ∈ [Value.int .i64 0, .int .i64 4, .int .u64 (yn % 4294967296), .string ys], u.oneCell' = true by intro u hu; simp at hu; rcases hu with rfl | rfl | rfl | rfl <;> rfl)
                    have HGE := hide (fun j (h : (Value.slice am k cm).ownBlock = some j) => (HO3.out.lt j h).1)
                    have HBK := hide (show BkGood ⟨0, 4, (yn % 4294967296), ys⟩ from good_zero (wd := 4) (by omega) (by omega) (by omega) (by omega) _ hzl (by show _ < 4294967296; omega))
                    go_wp2_with (at_builtin; refine wpList_append_own _ rfl _ _ 46 rfl w.heap.size 49 i0 (.agg #[.int .i64 0, .int .i64 0, .int .u64 0, .string ⟨#[]⟩]) 4 40 Try.underlying46 HI.out HZ0.out HZ1.out HZ2.out rfl (by decide) (.slice am k cm) k M rfl HO3.out ⟨w2.heap.size + 1, 0, none⟩ 1 1 [.int .i64 0, .int .i64 4, .int .u64 (yn % 4294967296), .string ys] rfl rfl HNEW.out HONE.out (by unfold maxLen; omega) (by omega) HA3.out.size ?_; intro v' w' ho hgr hnil; obtain ⟨a2, c2, rfl⟩ := owns_slice_n ho; clear hnil; have HN := hide ho; have HBN := hide (HA3.out.grown hgr HA3.out.size HGE.out); clear ho hgr)
                    go_roundw
                    case rel => exact ⟨m ++ [⟨0, 4, (yn % 4294967296), ys⟩], a2, c2, by simp; omega, good_snoc HGOOD.out HBK.out, by rw [List.length_append, hkk]; go_num, by rw [List.length_append, hkk]; rfl, by rw [List.length_append, hkk, List.flatMap_append, HM.out]; exact HN.out, HBN.out⟩
                    case measure => simp [intOf]; omega
                · go_wp2_with fail
                  go_region
                  all_goals
                    have HA3 := hide ((HA2.out.alloc HA2.out.size (.cells #[.int .i64 0, .int .i64 5, .int .u64 (yn % 1099511627776), .string ys] 49)).drew.alloc (HA2.out.alloc HA2.out.size (.cells #[.int .i64 0, .int .i64 5, .int .u64 (yn % 1099511627776), .string ys] 49)).drew.size (.cells #[.int .i64 0, .int .i64 5, .int .u64 (yn % 1099511627776), .string ys] 49))
                    have HO3 := hide ((HO2.out.alloc (.cells #[.int .i64 0, .int .i64 5, .int .u64 (yn % 1099511627776), .string ys] 49)).drew.alloc (.cells #[.int .i64 0, .int .i64 5, .int .u64 (yn % 1099511627776), .string ys] 49))
                    have HNEW := hide (new_row2d w2 (.cells #[.int .i64 0, .int .i64 5, .int .u64 (yn % 1099511627776), .string ys] 49) ⟨0, 5, (yn % 1099511627776), ys⟩)
                    have HONE := hide (show ∀ u ∈ [Value.int .i64 0, .int .i64 5, .int .u64 (yn % 1099511627776), .string ys], u.oneCell' = true by intro u hu; simp at hu; rcases hu with rfl | rfl | rfl | rfl <;> rfl)
                    have HGE := hide (fun j (h : (Value.slice am k cm).ownBlock = some j) => (HO3.out.lt j h).1)
                    have HBK := hide (show BkGood ⟨0, 5, (yn % 1099511627776), ys⟩ from good_zero (wd := 5) (by omega) (by omega) (by omega) (by omega) _ hzl (by show _ < 1099511627776; omega))
                    go_wp2_with (at_builtin; refine wpList_append_own _ rfl _ _ 46 rfl w.heap.size 49 i0 (.agg #[.int .i64 0, .int .i64 0, .int .u64 0, .string ⟨#[]⟩]) 4 40 Try.underlying46 HI.out HZ0.out HZ1.out HZ2.out rfl (by decide) (.slice am k cm) k M rfl HO3.out ⟨w2.heap.size + 1, 0, none⟩ 1 1 [.int .i64 0, .int .i64 5, .int .u64 (yn % 1099511627776), .string ys] rfl rfl HNEW.out HONE.out (by unfold maxLen; omega) (by omega) HA3.out.size ?_; intro v' w' ho hgr hnil; obtain ⟨a2, c2, rfl⟩ := owns_slice_n ho; clear hnil; have HN := hide ho; have HBN := hide (HA3.out.grown hgr HA3.out.size HGE.out); clear ho hgr)
                    go_roundw
                    case rel => exact ⟨m ++ [⟨0, 5, (yn % 1099511627776), ys⟩], a2, c2, by simp; omega, good_snoc HGOOD.out HBK.out, by rw [List.length_append, hkk]; go_num, by rw [List.length_append, hkk]; rfl, by rw [List.length_append, hkk, List.flatMap_append, HM.out]; exact HN.out, HBN.out⟩
                    case measure => simp [intOf]; omega
                · go_wp2_with fail
                  go_region
                  all_goals
                    have HA3 := hide ((HA2.out.alloc HA2.out.size (.cells #[.int .i64 0, .int .i64 6, .int .u64 (yn % 281474976710656), .string ys] 49)).drew.alloc (HA2.out.alloc HA2.out.size (.cells #[.int .i64 0, .int .i64 6, .int .u64 (yn % 281474976710656), .string ys] 49)).drew.size (.cells #[.int .i64 0, .int .i64 6, .int .u64 (yn % 281474976710656), .string ys] 49))
                    have HO3 := hide ((HO2.out.alloc (.cells #[.int .i64 0, .int .i64 6, .int .u64 (yn % 281474976710656), .string ys] 49)).drew.alloc (.cells #[.int .i64 0, .int .i64 6, .int .u64 (yn % 281474976710656), .string ys] 49))
                    have HNEW := hide (new_row2d w2 (.cells #[.int .i64 0, .int .i64 6, .int .u64 (yn % 281474976710656), .string ys] 49) ⟨0, 6, (yn % 281474976710656), ys⟩)
                    have HONE := hide (show ∀ u ∈ [Value.int .i64 0, .int .i64 6, .int .u64 (yn % 281474976710656), .string ys], u.oneCell' = true by intro u hu; simp at hu; rcases hu with rfl | rfl | rfl | rfl <;> rfl)
                    have HGE := hide (fun j (h : (Value.slice am k cm).ownBlock = some j) => (HO3.out.lt j h).1)
                    have HBK := hide (show BkGood ⟨0, 6, (yn % 281474976710656), ys⟩ from good_zero (wd := 6) (by omega) (by omega) (by omega) (by omega) _ hzl (by show _ < 281474976710656; omega))
                    go_wp2_with (at_builtin; refine wpList_append_own _ rfl _ _ 46 rfl w.heap.size 49 i0 (.agg #[.int .i64 0, .int .i64 0, .int .u64 0, .string ⟨#[]⟩]) 4 40 Try.underlying46 HI.out HZ0.out HZ1.out HZ2.out rfl (by decide) (.slice am k cm) k M rfl HO3.out ⟨w2.heap.size + 1, 0, none⟩ 1 1 [.int .i64 0, .int .i64 6, .int .u64 (yn % 281474976710656), .string ys] rfl rfl HNEW.out HONE.out (by unfold maxLen; omega) (by omega) HA3.out.size ?_; intro v' w' ho hgr hnil; obtain ⟨a2, c2, rfl⟩ := owns_slice_n ho; clear hnil; have HN := hide ho; have HBN := hide (HA3.out.grown hgr HA3.out.size HGE.out); clear ho hgr)
                    go_roundw
                    case rel => exact ⟨m ++ [⟨0, 6, (yn % 281474976710656), ys⟩], a2, c2, by simp; omega, good_snoc HGOOD.out HBK.out, by rw [List.length_append, hkk]; go_num, by rw [List.length_append, hkk]; rfl, by rw [List.length_append, hkk, List.flatMap_append, HM.out]; exact HN.out, HBN.out⟩
                    case measure => simp [intOf]; omega
                · go_wp2_with fail
                  go_region
                  all_goals
                    have HA3 := hide ((HA2.out.alloc HA2.out.size (.cells #[.int .i64 0, .int .i64 7, .int .u64 (yn % 72057594037927936), .string ys] 49)).drew.alloc (HA2.out.alloc HA2.out.size (.cells #[.int .i64 0, .int .i64 7, .int .u64 (yn % 72057594037927936), .string ys] 49)).drew.size (.cells #[.int .i64 0, .int .i64 7, .int .u64 (yn % 72057594037927936), .string ys] 49))
                    have HO3 := hide ((HO2.out.alloc (.cells #[.int .i64 0, .int .i64 7, .int .u64 (yn % 72057594037927936), .string ys] 49)).drew.alloc (.cells #[.int .i64 0, .int .i64 7, .int .u64 (yn % 72057594037927936), .string ys] 49))
                    have HNEW := hide (new_row2d w2 (.cells #[.int .i64 0, .int .i64 7, .int .u64 (yn % 72057594037927936), .string ys] 49) ⟨0, 7, (yn % 72057594037927936), ys⟩)
                    have HONE := hide (show ∀ u ∈ [Value.int .i64 0, .int .i64 7, .int .u64 (yn % 72057594037927936), .string ys], u.oneCell' = true by intro u hu; simp at hu; rcases hu with rfl | rfl | rfl | rfl <;> rfl)
                    have HGE := hide (fun j (h : (Value.slice am k cm).ownBlock = some j) => (HO3.out.lt j h).1)
                    have HBK := hide (show BkGood ⟨0, 7, (yn % 72057594037927936), ys⟩ from good_zero (wd := 7) (by omega) (by omega) (by omega) (by omega) _ hzl (by show _ < 72057594037927936; omega))
                    go_wp2_with (at_builtin; refine wpList_append_own _ rfl _ _ 46 rfl w.heap.size 49 i0 (.agg #[.int .i64 0, .int .i64 0, .int .u64 0, .string ⟨#[]⟩]) 4 40 Try.underlying46 HI.out HZ0.out HZ1.out HZ2.out rfl (by decide) (.slice am k cm) k M rfl HO3.out ⟨w2.heap.size + 1, 0, none⟩ 1 1 [.int .i64 0, .int .i64 7, .int .u64 (yn % 72057594037927936), .string ys] rfl rfl HNEW.out HONE.out (by unfold maxLen; omega) (by omega) HA3.out.size ?_; intro v' w' ho hgr hnil; obtain ⟨a2, c2, rfl⟩ := owns_slice_n ho; clear hnil; have HN := hide ho; have HBN := hide (HA3.out.grown hgr HA3.out.size HGE.out); clear ho hgr)
                    go_roundw
                    case rel => exact ⟨m ++ [⟨0, 7, (yn % 72057594037927936), ys⟩], a2, c2, by simp; omega, good_snoc HGOOD.out HBK.out, by rw [List.length_append, hkk]; go_num, by rw [List.length_append, hkk]; rfl, by rw [List.length_append, hkk, List.flatMap_append, HM.out]; exact HN.out, HBN.out⟩
                    case measure => simp [intOf]; omega
              · have e8 : (1 + yw % 8).toNat = 8 := by omega
                have HA3 := hide ((HA2.out.alloc HA2.out.size (.cells #[.int .i64 0, .int .i64 (1 + yw % 8), .int .u64 yn, .string ys] 49)).alloc (HA2.out.alloc HA2.out.size (.cells #[.int .i64 0, .int .i64 (1 + yw % 8), .int .u64 yn, .string ys] 49)).size (.cells #[.int .i64 0, .int .i64 (1 + yw % 8), .int .u64 yn, .string ys] 49))
                have HO3 := hide ((HO2.out.alloc (.cells #[.int .i64 0, .int .i64 (1 + yw % 8), .int .u64 yn, .string ys] 49)).alloc (.cells #[.int .i64 0, .int .i64 (1 + yw % 8), .int .u64 yn, .string ys] 49))
                have HNEW := hide (new_row2 w2 (.cells #[.int .i64 0, .int .i64 (1 + yw % 8), .int .u64 yn, .string ys] 49) ⟨0, (1 + yw % 8), yn, ys⟩)
                have HONE := hide (show ∀ u ∈ [Value.int .i64 0, .int .i64 (1 + yw % 8), .int .u64 yn, .string ys], u.oneCell' = true by intro u hu; simp at hu; rcases hu with rfl | rfl | rfl | rfl <;> rfl)
                have HGE := hide (fun j (h : (Value.slice am k cm).ownBlock = some j) => (HO3.out.lt j h).1)
                have HBK := hide (show BkGood ⟨0, (1 + yw % 8), yn, ys⟩ from good_zero (wd := 1 + yw % 8) yn0 yn1 (by omega) (by omega) _ hzl (by rw [e8]; omega))
                go_wp2_with (at_builtin; refine wpList_append_own _ rfl _ _ 46 rfl w.heap.size 49 i0 (.agg #[.int .i64 0, .int .i64 0, .int .u64 0, .string ⟨#[]⟩]) 4 40 Try.underlying46 HI.out HZ0.out HZ1.out HZ2.out rfl (by decide) (.slice am k cm) k M rfl HO3.out ⟨w2.heap.size + 1, 0, none⟩ 1 1 [.int .i64 0, .int .i64 (1 + yw % 8), .int .u64 yn, .string ys] rfl rfl HNEW.out HONE.out (by unfold maxLen; omega) (by omega) HA3.out.size ?_; intro v' w' ho hgr hnil; obtain ⟨a2, c2, rfl⟩ := owns_slice_n ho; clear hnil; have HN := hide ho; have HBN := hide (HA3.out.grown hgr HA3.out.size HGE.out); clear ho hgr)
                go_roundw
                case rel => exact ⟨m ++ [⟨0, (1 + yw % 8), yn, ys⟩], a2, c2, by simp; omega, good_snoc HGOOD.out HBK.out, by rw [List.length_append, hkk]; go_num, by rw [List.length_append, hkk]; rfl, by rw [List.length_append, hkk, List.flatMap_append, HM.out]; exact HN.out, HBN.out⟩
                case measure => simp [intOf]; omega
            · have hyw' : ¬ 0 < yw := hyw
              go_wp2_with fail
              go_region
              all_goals
                have HA3 := hide ((HA2.out.alloc HA2.out.size (.cells #[.int .i64 0, .int .i64 1, .int .u64 (yn % 256), .string ys] 49)).drew.alloc (HA2.out.alloc HA2.out.size (.cells #[.int .i64 0, .int .i64 1, .int .u64 (yn % 256), .string ys] 49)).drew.size (.cells #[.int .i64 0, .int .i64 1, .int .u64 (yn % 256), .string ys] 49))
                have HO3 := hide ((HO2.out.alloc (.cells #[.int .i64 0, .int .i64 1, .int .u64 (yn % 256), .string ys] 49)).drew.alloc (.cells #[.int .i64 0, .int .i64 1, .int .u64 (yn % 256), .string ys] 49))
                have HNEW := hide (new_row2d w2 (.cells #[.int .i64 0, .int .i64 1, .int .u64 (yn % 256), .string ys] 49) ⟨0, 1, (yn % 256), ys⟩)
                have HONE := hide (show ∀ u ∈ [Value.int .i64 0, .int .i64 1, .int .u64 (yn % 256), .string ys], u.oneCell' = true by intro u hu; simp at hu; rcases hu with rfl | rfl | rfl | rfl <;> rfl)
                have HGE := hide (fun j (h : (Value.slice am k cm).ownBlock = some j) => (HO3.out.lt j h).1)
                have HBK := hide (show BkGood ⟨0, 1, (yn % 256), ys⟩ from good_zero (wd := 1) (by omega) (by omega) (by omega) (by omega) _ hzl (by show _ < 256; omega))
                go_wp2_with (at_builtin; refine wpList_append_own _ rfl _ _ 46 rfl w.heap.size 49 i0 (.agg #[.int .i64 0, .int .i64 0, .int .u64 0, .string ⟨#[]⟩]) 4 40 Try.underlying46 HI.out HZ0.out HZ1.out HZ2.out rfl (by decide) (.slice am k cm) k M rfl HO3.out ⟨w2.heap.size + 1, 0, none⟩ 1 1 [.int .i64 0, .int .i64 1, .int .u64 (yn % 256), .string ys] rfl rfl HNEW.out HONE.out (by unfold maxLen; omega) (by omega) HA3.out.size ?_; intro v' w' ho hgr hnil; obtain ⟨a2, c2, rfl⟩ := owns_slice_n ho; clear hnil; have HN := hide ho; have HBN := hide (HA3.out.grown hgr HA3.out.size HGE.out); clear ho hgr)
                go_roundw
                case rel => exact ⟨m ++ [⟨0, 1, (yn % 256), ys⟩], a2, c2, by simp; omega, good_snoc HGOOD.out HBK.out, by rw [List.length_append, hkk]; go_num, by rw [List.length_append, hkk]; rfl, by rw [List.length_append, hkk, List.flatMap_append, HM.out]; exact HN.out, HBN.out⟩
                case measure => simp [intOf]; omega
          · have hk0' : ¬ yk = 0 := hk0
            have HA3 := hide ((HA2.out.alloc HA2.out.size (.cells #[.int .i64 yk, .int .i64 yw, .int .u64 yn, .string ys] 49)).alloc (HA2.out.alloc HA2.out.size (.cells #[.int .i64 yk, .int .i64 yw, .int .u64 yn, .string ys] 49)).size (.cells #[.int .i64 yk, .int .i64 yw, .int .u64 yn, .string ys] 49))
            have HO3 := hide ((HO2.out.alloc (.cells #[.int .i64 yk, .int .i64 yw, .int .u64 yn, .string ys] 49)).alloc (.cells #[.int .i64 yk, .int .i64 yw, .int .u64 yn, .string ys] 49))
            have HNEW := hide (new_row2 w2 (.cells #[.int .i64 yk, .int .i64 yw, .int .u64 yn, .string ys] 49) ⟨yk, yw, yn, ys⟩)
            have HONE := hide (show ∀ u ∈ [Value.int .i64 yk, .int .i64 yw, .int .u64 yn, .string ys], u.oneCell' = true by intro u hu; simp at hu; rcases hu with rfl | rfl | rfl | rfl <;> rfl)
            have HGE := hide (fun j (h : (Value.slice am k cm).ownBlock = some j) => (HO3.out.lt j h).1)
            have HBK := hide (show BkGood ⟨yk, yw, yn, ys⟩ from good_end HFG.out hk0 _ hzl)
            go_wp2_with (at_builtin; refine wpList_append_own _ rfl _ _ 46 rfl w.heap.size 49 i0 (.agg #[.int .i64 0, .int .i64 0, .int .u64 0, .string ⟨#[]⟩]) 4 40 Try.underlying46 HI.out HZ0.out HZ1.out HZ2.out rfl (by decide) (.slice am k cm) k M rfl HO3.out ⟨w2.heap.size + 1, 0, none⟩ 1 1 [.int .i64 yk, .int .i64 yw, .int .u64 yn, .string ys] rfl rfl HNEW.out HONE.out (by unfold maxLen; omega) (by omega) HA3.out.size ?_; intro v' w' ho hgr hnil; obtain ⟨a2, c2, rfl⟩ := owns_slice_n ho; clear hnil; have HN := hide ho; have HBN := hide (HA3.out.grown hgr HA3.out.size HGE.out); clear ho hgr)
            go_roundw
            case rel => exact ⟨m ++ [⟨yk, yw, yn, ys⟩], a2, c2, by simp; omega, good_snoc HGOOD.out HBK.out, by rw [List.length_append, hkk]; go_num, by rw [List.length_append, hkk]; rfl, by rw [List.length_append, hkk, List.flatMap_append, HM.out]; exact HN.out, HBN.out⟩
            case measure => simp [intOf]; omega
      · obtain rfl : k = L.length := by omega
        clear hB hown
        have hfl := hide (show FldsAt wr wr.heap.size am m from flds_of_owns (cap := cm) (by have := HOWN.out; rw [hkk]; exact this))
        have hml : m.length ≤ 20 := by omega
        have HEL := hide (enc_len m hgood hml)
        have HWF := hide (wrFs_enc m hgood)
        have HFG : Hid (∀ x ∈ m, FldGood x) := hide (fun x hx => bk_fld (hgood x hx))
        have HW3 := hide (wrAt_new wr)
        have HF3 := hide (show FldsAt (wr.alloc (.cells #[.slice none 0 0, .bool false] 70)) wr.heap.size am m from hfl.out.below ((Below.refl _ _).alloc (Nat.le_refl _) _))
        have HB3 := hide (HB.out.alloc HB.out.size (.cells #[.slice none 0 0, .bool false] 70))
        have HWR := hide (write_any wr.heap.size wr.heap.size m (by omega) HFG.out am cm _ HF3.out HW3.out (Nat.le_refl _))
        rw [hkk] at HWR
        clear HOWN
        go_wp2_with fail
        refine HWR.out.mono ?_
        rintro e w4 ⟨rfl, hw4, hb4⟩
        have HB4 := hide (HB3.out.trans (hb4.mono HB.out.size))
        have hby := wbytes_any wr.heap.size wr.heap.size _ _ _ hw4
        rw [HWF.out] at hby
        simp only at hby
        rw [if_neg (by simp), if_neg (by simp)] at hby
        have HBY := hide hby
        have hsz4 : wr.heap.size + 1 ≤ w4.heap.size := by have := hb4.size; simpa using this
        have HF4 := hide (show FldsAt w4 w4.heap.size am m from HF3.out.size hb4 (by omega))
        obtain ⟨E, hE⟩ : ∃ E, m.flatMap encF = E := ⟨_, rfl⟩
        have HE := hide hE
        rw [hE] at HBY HEL
        clear hw4 hb4 HWR hby HW3 HF3 HB3 HFG hE HWF
        go_wp2_with fail
        refine HBY.out.mono ?_
        rintro e w5 ⟨rfl, rfl⟩
        go_wp2_with fail
        refine (wakes4 _).mono ?_
        rintro e w6 ⟨rfl, hb6⟩
        have HB6 := hide (below_trans HB4.out hb6)
        have HF6 := hide (show FldsAt w6 w6.heap.size am m from HF4.out.size hb6 hb6.size)
        clear hb6 HBY HB4 HF4
        go_wp2_with fail
        refine (read_any (bs E) _).mono ?_
        rintro e w7 ⟨rfl, hrd, hb7⟩
        have HB7 := hide (below_trans HB6.out hb7)
        have HF7 := hide (show FldsAt w7 w6.heap.size am m from HF6.out.below hb7)
        have HRD := hide hrd
        have hp7 := hide (show w6.heap.size < w7.heap.size from heap_lt hrd.row)
        have HBW := hide (show w.heap.size ≤ w6.heap.size from HB6.out.size)
        generalize w6.heap.size = p at *
        clear hrd hb7
        go_wp2_with fail
        go_loopw [80] (fun i W => ∃ k : Nat, k ≤ L.length ∧ i = .int .i64 k ∧ RdAt W p (bs ((m.drop k).flatMap encF)) false ∧ Below p w7 W) (fun i _ => L.length - (intOf i).toNat)
        case atStart => exact ⟨0, by omega, rfl, by rw [List.drop_zero, HE.out]; exact HRD.out, Below.refl _ _⟩
        case round =>
          obtain ⟨k, hk9, rfl, hrd, hB⟩ := hrel
          have HRK := hide hrd
          have HBK := hide hB
          by_cases hlt9 : k < L.length
          · obtain ⟨g, rfl, hg, c0, c1, c2, c3⟩ := (HF7.out.below hB).at k (by omega)
            obtain ⟨y, hy, hyk, hys, hyn⟩ := rdF_at (by omega : k < m.length) HGOOD.out
            have hxk := (HGOOD.out _ (getD_mem m k (by omega))).1
            have hsz9 : (bs ((m.drop k).flatMap encF)).size ≤ 9223372036854775807 := by rw [bs_size]; have := enc_drop m k; rw [HE.out] at this; have := HEL.out; omega
            have HRF := hide (fun W hW => read_fld p (bs ((m.drop k).flatMap encF)) hsz9 false (m.getD k fld0) (by omega) W hW)
            rw [hy] at HRF
            have hgw : g < wr.heap.size := Nat.lt_trans hg (heap_lt hrd.row)
            have hpw := heap_lt hrd.row
            generalize m.getD k fld0 = x at *
            obtain ⟨xk, xw, xn, xs⟩ := x
            obtain ⟨yk, yw, yn, ys⟩ := y
            simp only at c0 c1 c2 c3 hyk hys hyn hxk
            have hyk' : xk = yk := hyk.symm
            clear hyk
            subst hyk'
            have HR9 := hide (hrd.more (.cells #[.int .i64 xk, .int .i64 xw, .int .u64 xn, .string xs] 49))
            have HB9 := hide ((Below.refl p wr).alloc (Nat.le_of_lt hpw) (.cells #[.int .i64 xk, .int .i64 xw, .int .u64 xn, .string xs] 49))
            have hne := heap_new wr (.cells #[.int .i64 xk, .int .i64 xw, .int .u64 xn, .string xs] 49)
            have HNE := hide hne
            have hnl := hide (show (wr.alloc (.cells #[.int .i64 xk, .int .i64 xw, .int .u64 xn, .string xs] 49)).heap.size = wr.heap.size + 1 by simp)
            simp only [fc] at HRF
            clear hy hrd hB hne hg hsz9
            go_wp2_with fail
            refine (HRF.out _ HR9.out).mono ?_
            rintro e w9 ⟨rfl, hr9, ho9⟩
            have hblk : w9.heap[wr.heap.size]? = some (.cells #[.int .i64 xk, .int .i64 xw, .int .u64 xn, .string xs] 49 (0, 0)) := by
              rw [ho9.block _ (by have := hnl.out; omega) (by omega)]; exact HNE.out
            obtain ⟨e0, e1, e2, e3, -⟩ := block4 hblk
            have HR10 := hide hr9
            have HB10 := hide (HB9.out.trans (ho9.from (by have := hnl.out; omega)))
            have hws : wr.heap.size < w9.heap.size := by have := ho9.size; have := hnl.out; omega
            clear hblk hr9 ho9 HNE HR9 HB9 HRF c0 c1 c2 c3 hnl
            by_cases hk2 : xk = 2
            · subst hk2
              have hys' := hys rfl
              subst hys'
              clear hys hyn
              go_wp2_with fail
              go_roundw
              case rel => exact ⟨k + 1, by omega, by go_num, HR10.out.more _, HBK.out.trans (HB10.out.alloc (by omega) _)⟩
              case measure => simp [intOf]; omega
            · have hyn' := hyn hk2
              subst hyn'
              clear hys hyn
              go_wp2_with fail
              go_roundw
              case rel => exact ⟨k + 1, by omega, by go_num, HR10.out.more _, HBK.out.trans (HB10.out.alloc (by omega) _)⟩
              case measure => simp [intOf]; omega
          · obtain rfl : k = L.length := by omega
            have hrd' : RdAt wr p (bs []) false := by have := hrd; rw [← hkk, List.drop_length] at this; exact this
            have hen := end_any p (bs []) false wr hrd'
            rw [show endE (bs []) false = 0 from rfl] at hen
            have hle := left_any p (bs []) false wr hrd'
            rw [if_neg (by simp), show ((bs ([] : List UInt8)).size : Int) = 0 from rfl] at hle
            have HEN := hide hen
            have HLE := hide hle
            have hbE := bs_size E
            have hbl : (bs E).size ≤ 6000 := by have := HEL.out; omega
            have HBW := hide (HB7.out.trans (hB.mono HBW.out))
            have hpw := heap_lt hrd.row
            have HF10 := hide (HF7.out.below hB)
            have HB10 := hide hB
            clear hrd hrd' hB HRK HBK HF7 hen hle
            go_wp2_with fail
            refine HEN.out.mono ?_
            rintro e w10 ⟨rfl, rfl⟩
            go_wp2_with fail
            refine HLE.out.mono ?_
            rintro e w11 ⟨rfl, rfl⟩
            by_cases hE0 : (bs E).size = 0
            · clear HEN HLE HF10 hbl
              go_wp2
              go_ret
              exact ⟨rfl, HBW.out⟩
            · have y1 : cut % (E.length : Int) = cut.tmod (E.length : Int) := by rw [Int.tmod_eq_emod_of_nonneg hc0.1]
              have y2 : 0 ≤ cut % (E.length : Int) := Int.emod_nonneg _ (by omega)
              have y3 : cut % (E.length : Int) < (E.length : Int) := Int.emod_lt_of_pos _ (by omega)
              clear HEN HLE
              go_wp2_with fail
              rw [show (bs E).extract 0 (cut % (E.length : Int)).toNat = bs (E.take (cut % (E.length : Int)).toNat) by rw [bsx, List.drop_zero]]
              have HCA := hide (show CutAt m 0 (bs (E.take (cut % (E.length : Int)).toNat)) false by have := CutAt.start m (cut % (E.length : Int)).toNat (by rw [HE.out]; omega); rwa [HE.out] at this)
              have HSZ := hide (show (bs (E.take (cut % (E.length : Int)).toNat)).size ≤ 6000 by rw [bs_size, List.length_take]; have := HEL.out; omega)
              generalize bs (E.take (cut % (E.length : Int)).toNat) = S at *
              refine (read_any S _).mono ?_
              rintro e w12 ⟨rfl, hrd2, hb12⟩
              have HF12 := hide (show FldsAt w12 wr.heap.size am m from HF10.out.size (hb12.mono (Nat.le_of_lt hpw)) (Nat.le_of_lt hpw))
              have HRD2 := hide hrd2
              have HBW2 := hide (below_trans HBW.out hb12)
              have HPW2 := hide HBW.out.size
              have hqw := heap_lt hrd2.row
              generalize wr.heap.size = q at *
              clear hrd2 hb12 HF10 HBW
              go_wp2_with fail
              go_loopw [131] (fun i W => ∃ (k : Nat) (s : ByteArray) (bad : Bool), k ≤ L.length ∧ i = .int .i64 k ∧ RdAt W q s bad ∧ s.size ≤ 6000 ∧ CutAt m k s bad ∧ Below q w12 W) (fun i _ => L.length - (intOf i).toNat)
              case atStart => exact ⟨0, S, false, by omega, rfl, HRD2.out, HSZ.out, HCA.out, Below.refl _ _⟩
              case round =>
                obtain ⟨k, s, bad, hk9, rfl, hrd, hsz, hca, hB⟩ := hrel
                have HBK := hide hB
                by_cases hlt9 : k < L.length
                · obtain ⟨g, rfl, hg, c0, c1, c2, c3⟩ := (HF12.out.below hB).at k (by omega)
                  have HNXT := hide (hca.next (by omega) HGOOD.out)
                  have hxk := (HGOOD.out _ (getD_mem m k (by omega))).1
                  have HLE49 := hide (rdF_left s bad (m.getD k fld0))
                  have HRF := hide (fun W hW => read_fld q s (by omega) bad (m.getD k fld0) (by omega) W hW)
                  have hgw : g < wr.heap.size := Nat.lt_trans hg (heap_lt hrd.row)
                  have hpw9 := heap_lt hrd.row
                  generalize rdF s bad (m.getD k fld0) = z at *
                  generalize m.getD k fld0 = x at *
                  obtain ⟨xk, xw, xn, xs⟩ := x
                  obtain ⟨⟨yk, yw, yn, ys⟩, s', bad'⟩ := z
                  simp only at c0 c1 c2 c3 hxk
                  have HR9 := hide (hrd.more (.cells #[.int .i64 xk, .int .i64 xw, .int .u64 xn, .string xs] 49))
                  have HB9 := hide ((Below.refl q wr).alloc (Nat.le_of_lt hpw9) (.cells #[.int .i64 xk, .int .i64 xw, .int .u64 xn, .string xs] 49))
                  have hnl := hide (show (wr.alloc (.cells #[.int .i64 xk, .int .i64 xw, .int .u64 xn, .string xs] 49)).heap.size = wr.heap.size + 1 by simp)
                  simp only [fc] at HRF
                  clear hrd hB hg hca
                  go_wp2_with fail
                  refine (HRF.out _ HR9.out).mono ?_
                  rintro e w9 ⟨rfl, hr9, ho9⟩
                  have HR10 := hide hr9
                  have HB10 := hide (HBK.out.trans (HB9.out.trans (ho9.from (by have := hnl.out; omega))))
                  clear hr9 ho9 HR9 HB9 HRF c0 c1 c2 c3 hnl
                  go_wp2_with fail
                  go_roundw
                  case rel => exact ⟨k + 1, s', bad', by omega, by go_num, HR10.out, Nat.le_trans HLE49.out hsz, HNXT.out, HB10.out⟩
                  case measure => simp [intOf]; omega
                · obtain rfl : k = L.length := by omega
                  have hbt : bad = true := by rw [← hkk] at hca; exact hca.end
                  subst hbt
                  have hen := end_any q s true wr hrd
                  rw [show endE s true = 4 from if_pos (.inl rfl)] at hen
                  have HEN := hide hen
                  have HBE := hide (HBW2.out.trans (hB.mono HPW2.out))
                  clear hen hrd hB hca HBK
                  go_wp2_with fail
                  refine HEN.out.mono ?_
                  rintro e w13 ⟨rfl, rfl⟩
                  go_wp2
                  go_ret
                  exact ⟨rfl, HBE.out⟩
theorem curBack_walk (v : Value) (cut : Int) (w : World) (hv : FieldsIn w v) (hc0 : 0 ≤ cut ∧ cut ≤ 65535) :
    Calls Try.prog 10 #[v, .int .u16 cut] w fun e w' => e = .returned (.bool true) ∧ Below w.heap.size w w' := by
  obtain ⟨L, a, cap, h⟩ := fieldsIn_at hv
  by_cases hbig : 20 < L.length
  · exact curBack_big v cut w hc0 L a cap h hbig
  · exact curBack_few v cut w hc0 L a cap h (by omega)

set_option maxRecDepth 100000 in
theorem curBack_lifted (os : Os) (started : os.Started) (H : Type) (enc : TypeId × Value → H) :
    ReturnsInHanded {} Try.checked os 10 .any (Rows.curBackSpec.pre6 enc Try.prog Try.f10 Rows.curBackRow.domain false) (Rows.curBackSpec.post enc Try.prog Try.f10 false true false false) := by
  refine returnsInHanded_of_change (C := Try.checked) own started (by kernel_rfl) Try.func10
    (ChangeSpec.witness6 (enc := enc) (C := Try.checked) false ⟨#[], #[.slice none 0 0, .int .u16 0], []⟩ 8 (by kernel_rfl) (by kernel_rfl) (by kernel_rfl) (by kernel_rfl)) ?_
  intro W base args ds gs before hval0 hW _ _
  have hval : ∀ (j : Nat) t v, Try.f10.params[j]? = some t → args[j]? = some v → Value.okWide Try.prog W .any base t v := hval0
  have hW' := hW
  obtain ⟨p, q, hA0, hV, rfl, hfz, hnd⟩ := hW
  have hA : DataW.TrodAll enc Try.prog W 0 (fun _ => true) true Try.f10.params.toList args.toList ds p := hA0
  rw [Try.params10] at hA hval
  obtain ⟨v0, vs0, d0, ds0, p0, q0, hargs, rfl, rfl, h0, r0⟩ := trodAll_cons hA
  obtain ⟨v1, vs1, d1, ds1, p1, q1, rfl, rfl, rfl, h1, r1⟩ := trodAll_cons r0
  obtain ⟨rfl, rfl, rfl⟩ := trodAll_nil r1
  obtain rfl : args = #[v0, v1] := by cases args; simp_all
  obtain ⟨rfl, rfl⟩ := trodVars_none hV
  have z0 := open_fields (hval 0 45 v0 rfl rfl) h0
  obtain ⟨cut, rfl, rfl, rfl, w1⟩ := open_int Try.underlying39 (hval 1 39 v1 rfl rfl) h1
  have z1 := wf_u16 w1
  clear hA0 hval0
  refine (curBack_walk v0 cut W z0 z1).mono fun e W' ⟨he, hb⟩ => ?_
  subst he
  exact ⟨_, rfl, post_law laidOut (of_decide_eq_true (by kernel_rfl)) rfl rfl Try.underlying4 hW' ⟨rfl, rfl, rfl⟩ hb⟩

/-- THE STATEMENT -/
theorem curBack_holds : Rows.CurBackSaid :=
  OpenClaim.holds_of_wide 10 Try.f10 rfl rfl rfl rfl rfl rfl rfl ⟨rfl, rfl, rfl, rfl, rfl⟩ rfl rfl rfl rfl rfl (by kernel_rfl) Try.func10 (by kernel_rfl)
    (of_decide_eq_true (by kernel_rfl)) (by unfold Func.isWrapper; first | (rw [if_pos (by decide +kernel)]; kernel_rfl) | (rw [if_neg (by decide +kernel)]; exact ⟨rfl, rfl⟩))
    (fun os started H enc _ => curBack_lifted os started H enc)

end Go.Proofs.Ytmhppjgclaahnaa
