/-
  Layer 4: the document's Read by contract.
-/
import Derived.Test.YtmhppjgclaahnaaCur9
import Derived.Test.YtmhppjgclaahnaaLaw4b
import Derived.WalkSpells
namespace Go.Proofs.Ytmhppjgclaahnaa
set_option linter.unusedSimpArgs false
set_option linter.unusedVariables false
open Go.RowKit

def lefts (l : List Int) : List Value := l.map fun x => .int .i64 x
theorem lefts_snoc (l : List Int) (x : Int) : lefts (l ++ [x]) = lefts l ++ [.int .i64 x] := by simp [lefts]
theorem new_row3d (w : World) (o : Obj) (k wd n : Int) (t : ByteArray) : ∀ (j : Nat) (u : Value), [Value.int .i64 k, .int .i64 wd, .int .u64 n, .string t][j]? = some u → ((w.alloc o).drew.alloc (.cells #[.int .i64 k, .int .i64 wd, .int .u64 n, .string t] 49)).cell? ((⟨w.heap.size + 1, 0, none⟩ : Addr).add j) = some u := by
  have := new_row (w.alloc o).drew ⟨k, wd, n, t⟩
  rwa [show (w.alloc o).drew.heap.size = w.heap.size + 1 by show (w.alloc o).heap.size = _; simp] at this
theorem new_one (w : World) (v : Value) (t : Nat) : ∀ (j : Nat) (u : Value), [v][j]? = some u → (w.alloc (.cells #[v] t)).cell? ((⟨w.heap.size, 0, none⟩ : Addr).add j) = some u := by
  intro j u h
  have e : (⟨w.heap.size, 0, none⟩ : Addr).add j = ⟨w.heap.size, j, none⟩ := by
    rw [Go.WideShapes.add_plain, Nat.zero_add]
  rw [e, World.cell?_alloc_new]
  simpa using h
theorem one4 (k wd n : Int) (t : ByteArray) : ∀ u ∈ [Value.int .i64 k, .int .i64 wd, .int .u64 n, .string t], u.oneCell' = true := by
  intro u hu
  simp at hu
  rcases hu with rfl | rfl | rfl | rfl <;> rfl
theorem one1 (x : Int) : ∀ u ∈ [Value.int .i64 x], u.oneCell' = true := by
  intro u hu
  simp at hu
  subst hu
  rfl
set_option maxRecDepth 100000 in
set_option maxHeartbeats 4000000 in
theorem refRead_any (m : List Fld) (hm : m.length ≤ 1000) (hg : ∀ x ∈ m, FldGood x) (a : Option Addr) (cap : Nat) (s0 : ByteArray) (hs0 : s0.size ≤ 1000) (w : World) (hF : FldsAt w w.heap.size a m) :
    Calls Try.prog 23 #[.string s0, .slice a m.length cap] w fun e w' => ∃ a1 c1 a2 c2, e = .returned (.tuple #[.slice a1 m.length c1, .slice a2 m.length c2, .bool (rdAll m s0).2.2]) ∧
      w'.ownsRow w.heap.size 49 4 (.slice a1 m.length c1) m.length ((rdAll m s0).1.1.flatMap fc) ∧ w'.ownsRow w.heap.size 3 1 (.slice a2 m.length c2) m.length (lefts (rdAll m s0).1.2) ∧ Below w.heap.size w w' := by
  have HF := hide hF
  have HG := hide hg
  have HFIN := hide (show (rdAll (m.take m.length) s0) = rdAll m s0 by rw [List.take_length])
  have HNX := hide (fun k (hlt : k < m.length) => rdAll_next m s0 k hlt)
  have HSZ := hide (fun k => (rdAll_len s0 (m.take k)).2.2)
  generalize rdAll m s0 = RA at *
  clear hF hg
  obtain ⟨i0, hi, hz0, hz1, hz2⟩ := info_parts (show (Try.prog.info? 49).map (fun i => (i.zero, i.size, i.bytes)) = some (some (.agg #[.int .i64 0, .int .i64 0, .int .u64 0, .string ⟨#[]⟩]), 4, 40) by kernel_rfl)
  have HI := hide hi
  have HZ0 := hide hz0
  have HZ1 := hide hz1
  have HZ2 := hide hz2
  clear hi hz0 hz1 hz2
  obtain ⟨i1, hi, hz0, hz1, hz2⟩ := info_parts (show (Try.prog.info? 3).map (fun i => (i.zero, i.size, i.bytes)) = some (some (.int .i64 0), 1, 8) by kernel_rfl)
  have HJ := hide hi
  have HJ0 := hide hz0
  have HJ1 := hide hz1
  have HJ2 := hide hz2
  clear hi hz0 hz1 hz2
  go_enter Try.func23, Try.ntmps23
  go_wp2_with fail
  go_loopw [0, 7, 8, 9, 10] (fun s o l b i W => ∃ (k : Nat) (a1 a2 : Option Addr) (c1 c2 : Nat), k ≤ m.length ∧ i = .int .i64 k ∧ s = .string (stS (rdAll (m.take k) s0).2.1 (rdAll (m.take k) s0).2.2) ∧ b = .bool (rdAll (m.take k) s0).2.2 ∧ o = .slice a1 k c1 ∧ l = .slice a2 k c2 ∧
    W.ownsRow w.heap.size 49 4 (.slice a1 k c1) k ((rdAll (m.take k) s0).1.1.flatMap fc) ∧ W.ownsRow w.heap.size 3 1 (.slice a2 k c2) k (lefts (rdAll (m.take k) s0).1.2) ∧ Below w.heap.size w W) (fun _ _ _ _ i _ => m.length - (intOf i).toNat)
  case atStart => exact ⟨0, none, none, 0, 0, by omega, rfl, rfl, rfl, rfl, rfl, World.ownsRow_nil _ _ _ _, World.ownsRow_nil _ _ _ _, Below.refl _ _⟩
  case round =>
    obtain ⟨k, a1, a2, k1, k2, hk, rfl, rfl, rfl, rfl, rfl, hown, hlow, hB⟩ := hrel
    have HB := hide hB
    have HOWN := hide hown
    have HLOW := hide hlow
    by_cases hlt : k < m.length
    · obtain ⟨g, rfl, hgB, c0, c1, c2, c3⟩ := (HF.out.below hB).at k hlt
      obtain ⟨⟨k0, k2'⟩, ⟨w0, w1⟩, ⟨n0, n1⟩, hs⟩ := HG.out _ (getD_mem m k hlt)
      have hzs := HSZ.out k
      have HNXK := hide (HNX.out k hlt)
      generalize m.getD k fld0 = x at *
      generalize rdAll (m.take k) s0 = z at *
      obtain ⟨⟨O, l⟩, s, bad⟩ := z
      obtain ⟨kk, wd, n, t⟩ := x
      simp only at *
      simp only [rdStep] at HNXK
      have hgw : g < wr.heap.size := Nat.lt_of_lt_of_le hgB HB.out.size
      clear hB hgB hown hlow
      cases bad
      · rw [show stS s false = s from rfl]
        obtain rfl | rfl | rfl : kk = 0 ∨ kk = 1 ∨ kk = 2 := by omega
        · by_cases hw1 : wd < 1
          · have hle : wd ≤ (s.size : Int) := by omega
            have hng : ¬ (s.size : Int) < wd := by omega
            rw [rdF_less0 s wd n t (by omega)] at HNXK
            simp only [show stS s true = ⟨#[]⟩ from rfl] at HNXK
            go_wp2_with fail
            go_region
            all_goals
              have HA3 := hide ((HB.out.alloc HB.out.size (.cells #[.int .i64 0, .int .i64 wd, .int .u64 0, .string ⟨#[]⟩] 49)).drew.alloc (HB.out.alloc HB.out.size (.cells #[.int .i64 0, .int .i64 wd, .int .u64 0, .string ⟨#[]⟩] 49)).drew.size (.cells #[.int .i64 0, .int .i64 wd, .int .u64 0, .string ⟨#[]⟩] 49))
              have HO3 := hide ((HOWN.out.alloc (.cells #[.int .i64 0, .int .i64 wd, .int .u64 0, .string ⟨#[]⟩] 49)).drew.alloc (.cells #[.int .i64 0, .int .i64 wd, .int .u64 0, .string ⟨#[]⟩] 49))
              have HL3 := hide ((HLOW.out.alloc (.cells #[.int .i64 0, .int .i64 wd, .int .u64 0, .string ⟨#[]⟩] 49)).drew.alloc (.cells #[.int .i64 0, .int .i64 wd, .int .u64 0, .string ⟨#[]⟩] 49))
              have HNEW := hide (new_row3d wr (.cells #[.int .i64 0, .int .i64 wd, .int .u64 0, .string ⟨#[]⟩] 49) 0 wd 0 ⟨#[]⟩)
              have HGE := hide (fun j (h : (Value.slice a1 k k1).ownBlock = some j) => (HO3.out.lt j h).1)
              go_wp2_with (at_builtin; first
                | (refine wpList_append_own _ rfl _ _ 46 rfl w.heap.size 49 i0 (.agg #[.int .i64 0, .int .i64 0, .int .u64 0, .string ⟨#[]⟩]) 4 40 Try.underlying46 HI.out HZ0.out HZ1.out HZ2.out rfl (by decide) (.slice a1 k k1) k (O.flatMap fc) rfl HO3.out ⟨wr.heap.size + 1, 0, none⟩ 1 1 [.int .i64 0, .int .i64 wd, .int .u64 0, .string ⟨#[]⟩] rfl rfl HNEW.out (one4 _ _ _ _) (by unfold maxLen; omega) (by omega) HA3.out.size ?_
                   intro v' w' ho hgr hnil
                   obtain ⟨a3, c3', rfl⟩ := owns_slice_n ho
                   have HN := hide (ho.alloc (.cells #[.int .i64 0] 3))
                   have HBN := hide ((HA3.out.grown hgr HA3.out.size HGE.out).alloc (HA3.out.grown hgr HA3.out.size HGE.out).size (.cells #[.int .i64 0] 3))
                   have HL5 := hide ((owns_kept_other HL3.out HO3.out (by decide) hgr).alloc (.cells #[.int .i64 0] 3))
                   have HNEW2 := hide (new_one w' (.int .i64 0) 3)
                   have HGE2 := hide (fun j (h : (Value.slice a2 k k2).ownBlock = some j) => (HL5.out.lt j h).1)
                   clear ho hgr hnil)
                | (refine wpList_append_own _ rfl _ _ 51 rfl w.heap.size 3 i1 (.int .i64 0) 1 8 Try.underlying51 HJ.out HJ0.out HJ1.out HJ2.out rfl (by decide) (.slice a2 k k2) k (lefts l) rfl HL5.out ⟨w'.heap.size, 0, none⟩ 1 1 [.int .i64 0] rfl rfl HNEW2.out (one1 _) (by unfold maxLen; omega) (by omega) HBN.out.size ?_
                   intro v'' w'' ho2 hgr2 hnil2
                   obtain ⟨a4, c4, rfl⟩ := owns_slice_n ho2
                   have HM1 := hide (owns_kept_other HN.out HL5.out (by decide) hgr2)
                   have HM2 := hide ho2
                   have HBM := hide (HBN.out.grown hgr2 HBN.out.size HGE2.out)
                   clear ho2 hgr2 hnil2))
              go_roundw
              case rel => exact ⟨k + 1, a3, a4, c3', c4, by omega, by go_num, by rw [HNXK.out]; rfl, by rw [HNXK.out], rfl, rfl, by rw [HNXK.out]; simp only; rw [flat_snoc]; exact HM1.out, by rw [HNXK.out]; simp only; rw [lefts_snoc]; exact HM2.out, HBM.out⟩
              case measure => simp [intOf]; omega
          · by_cases hw8 : 8 < wd
            · by_cases hsz : (s.size : Int) < wd
              · rw [rdF_less0 s wd n t (by omega)] at HNXK
                simp only [show stS s true = ⟨#[]⟩ from rfl] at HNXK
                go_wp2_with fail
                go_region
                all_goals
                  have HA3 := hide ((HB.out.alloc HB.out.size (.cells #[.int .i64 0, .int .i64 wd, .int .u64 0, .string ⟨#[]⟩] 49)).drew.alloc (HB.out.alloc HB.out.size (.cells #[.int .i64 0, .int .i64 wd, .int .u64 0, .string ⟨#[]⟩] 49)).drew.size (.cells #[.int .i64 0, .int .i64 wd, .int .u64 0, .string ⟨#[]⟩] 49))
                  have HO3 := hide ((HOWN.out.alloc (.cells #[.int .i64 0, .int .i64 wd, .int .u64 0, .string ⟨#[]⟩] 49)).drew.alloc (.cells #[.int .i64 0, .int .i64 wd, .int .u64 0, .string ⟨#[]⟩] 49))
                  have HL3 := hide ((HLOW.out.alloc (.cells #[.int .i64 0, .int .i64 wd, .int .u64 0, .string ⟨#[]⟩] 49)).drew.alloc (.cells #[.int .i64 0, .int .i64 wd, .int .u64 0, .string ⟨#[]⟩] 49))
                  have HNEW := hide (new_row3d wr (.cells #[.int .i64 0, .int .i64 wd, .int .u64 0, .string ⟨#[]⟩] 49) 0 wd 0 ⟨#[]⟩)
                  have HGE := hide (fun j (h : (Value.slice a1 k k1).ownBlock = some j) => (HO3.out.lt j h).1)
                  go_wp2_with (at_builtin; first
                    | (refine wpList_append_own _ rfl _ _ 46 rfl w.heap.size 49 i0 (.agg #[.int .i64 0, .int .i64 0, .int .u64 0, .string ⟨#[]⟩]) 4 40 Try.underlying46 HI.out HZ0.out HZ1.out HZ2.out rfl (by decide) (.slice a1 k k1) k (O.flatMap fc) rfl HO3.out ⟨wr.heap.size + 1, 0, none⟩ 1 1 [.int .i64 0, .int .i64 wd, .int .u64 0, .string ⟨#[]⟩] rfl rfl HNEW.out (one4 _ _ _ _) (by unfold maxLen; omega) (by omega) HA3.out.size ?_
                       intro v' w' ho hgr hnil
                       obtain ⟨a3, c3', rfl⟩ := owns_slice_n ho
                       have HN := hide (ho.alloc (.cells #[.int .i64 0] 3))
                       have HBN := hide ((HA3.out.grown hgr HA3.out.size HGE.out).alloc (HA3.out.grown hgr HA3.out.size HGE.out).size (.cells #[.int .i64 0] 3))
                       have HL5 := hide ((owns_kept_other HL3.out HO3.out (by decide) hgr).alloc (.cells #[.int .i64 0] 3))
                       have HNEW2 := hide (new_one w' (.int .i64 0) 3)
                       have HGE2 := hide (fun j (h : (Value.slice a2 k k2).ownBlock = some j) => (HL5.out.lt j h).1)
                       clear ho hgr hnil)
                    | (refine wpList_append_own _ rfl _ _ 51 rfl w.heap.size 3 i1 (.int .i64 0) 1 8 Try.underlying51 HJ.out HJ0.out HJ1.out HJ2.out rfl (by decide) (.slice a2 k k2) k (lefts l) rfl HL5.out ⟨w'.heap.size, 0, none⟩ 1 1 [.int .i64 0] rfl rfl HNEW2.out (one1 _) (by unfold maxLen; omega) (by omega) HBN.out.size ?_
                       intro v'' w'' ho2 hgr2 hnil2
                       obtain ⟨a4, c4, rfl⟩ := owns_slice_n ho2
                       have HM1 := hide (owns_kept_other HN.out HL5.out (by decide) hgr2)
                       have HM2 := hide ho2
                       have HBM := hide (HBN.out.grown hgr2 HBN.out.size HGE2.out)
                       clear ho2 hgr2 hnil2))
                  go_roundw
                  case rel => exact ⟨k + 1, a3, a4, c3', c4, by omega, by go_num, by rw [HNXK.out]; rfl, by rw [HNXK.out], rfl, rfl, by rw [HNXK.out]; simp only; rw [flat_snoc]; exact HM1.out, by rw [HNXK.out]; simp only; rw [lefts_snoc]; exact HM2.out, HBM.out⟩
                  case measure => simp [intOf]; omega
              · have hle : wd ≤ (s.size : Int) := by omega
                have hng : ¬ (s.size : Int) < wd := by omega
                rw [rdF_less0 s wd n t (by omega)] at HNXK
                simp only [show stS s true = ⟨#[]⟩ from rfl] at HNXK
                go_wp2_with fail
                go_region
                all_goals
                  have HA3 := hide ((HB.out.alloc HB.out.size (.cells #[.int .i64 0, .int .i64 wd, .int .u64 0, .string ⟨#[]⟩] 49)).drew.alloc (HB.out.alloc HB.out.size (.cells #[.int .i64 0, .int .i64 wd, .int .u64 0, .string ⟨#[]⟩] 49)).drew.size (.cells #[.int .i64 0, .int .i64 wd, .int .u64 0, .string ⟨#[]⟩] 49))
                  have HO3 := hide ((HOWN.out.alloc (.cells #[.int .i64 0, .int .i64 wd, .int .u64 0, .string ⟨#[]⟩] 49)).drew.alloc (.cells #[.int .i64 0, .int .i64 wd, .int .u64 0, .string ⟨#[]⟩] 49))
                  have HL3 := hide ((HLOW.out.alloc (.cells #[.int .i64 0, .int .i64 wd, .int .u64 0, .string ⟨#[]⟩] 49)).drew.alloc (.cells #[.int .i64 0, .int .i64 wd, .int .u64 0, .string ⟨#[]⟩] 49))
                  have HNEW := hide (new_row3d wr (.cells #[.int .i64 0, .int .i64 wd, .int .u64 0, .string ⟨#[]⟩] 49) 0 wd 0 ⟨#[]⟩)
                  have HGE := hide (fun j (h : (Value.slice a1 k k1).ownBlock = some j) => (HO3.out.lt j h).1)
                  go_wp2_with (at_builtin; first
                    | (refine wpList_append_own _ rfl _ _ 46 rfl w.heap.size 49 i0 (.agg #[.int .i64 0, .int .i64 0, .int .u64 0, .string ⟨#[]⟩]) 4 40 Try.underlying46 HI.out HZ0.out HZ1.out HZ2.out rfl (by decide) (.slice a1 k k1) k (O.flatMap fc) rfl HO3.out ⟨wr.heap.size + 1, 0, none⟩ 1 1 [.int .i64 0, .int .i64 wd, .int .u64 0, .string ⟨#[]⟩] rfl rfl HNEW.out (one4 _ _ _ _) (by unfold maxLen; omega) (by omega) HA3.out.size ?_
                       intro v' w' ho hgr hnil
                       obtain ⟨a3, c3', rfl⟩ := owns_slice_n ho
                       have HN := hide (ho.alloc (.cells #[.int .i64 0] 3))
                       have HBN := hide ((HA3.out.grown hgr HA3.out.size HGE.out).alloc (HA3.out.grown hgr HA3.out.size HGE.out).size (.cells #[.int .i64 0] 3))
                       have HL5 := hide ((owns_kept_other HL3.out HO3.out (by decide) hgr).alloc (.cells #[.int .i64 0] 3))
                       have HNEW2 := hide (new_one w' (.int .i64 0) 3)
                       have HGE2 := hide (fun j (h : (Value.slice a2 k k2).ownBlock = some j) => (HL5.out.lt j h).1)
                       clear ho hgr hnil)
                    | (refine wpList_append_own _ rfl _ _ 51 rfl w.heap.size 3 i1 (.int .i64 0) 1 8 Try.underlying51 HJ.out HJ0.out HJ1.out HJ2.out rfl (by decide) (.slice a2 k k2) k (lefts l) rfl HL5.out ⟨w'.heap.size, 0, none⟩ 1 1 [.int .i64 0] rfl rfl HNEW2.out (one1 _) (by unfold maxLen; omega) (by omega) HBN.out.size ?_
                       intro v'' w'' ho2 hgr2 hnil2
                       obtain ⟨a4, c4, rfl⟩ := owns_slice_n ho2
                       have HM1 := hide (owns_kept_other HN.out HL5.out (by decide) hgr2)
                       have HM2 := hide ho2
                       have HBM := hide (HBN.out.grown hgr2 HBN.out.size HGE2.out)
                       clear ho2 hgr2 hnil2))
                  go_roundw
                  case rel => exact ⟨k + 1, a3, a4, c3', c4, by omega, by go_num, by rw [HNXK.out]; rfl, by rw [HNXK.out], rfl, rfl, by rw [HNXK.out]; simp only; rw [flat_snoc]; exact HM1.out, by rw [HNXK.out]; simp only; rw [lefts_snoc]; exact HM2.out, HBM.out⟩
                  case measure => simp [intOf]; omega
            · by_cases hsz : (s.size : Int) < wd
              · rw [rdF_less0 s wd n t (by omega)] at HNXK
                simp only [show stS s true = ⟨#[]⟩ from rfl] at HNXK
                go_wp2_with fail
                go_region
                all_goals
                  have HA3 := hide ((HB.out.alloc HB.out.size (.cells #[.int .i64 0, .int .i64 wd, .int .u64 0, .string ⟨#[]⟩] 49)).drew.alloc (HB.out.alloc HB.out.size (.cells #[.int .i64 0, .int .i64 wd, .int .u64 0, .string ⟨#[]⟩] 49)).drew.size (.cells #[.int .i64 0, .int .i64 wd, .int .u64 0, .string ⟨#[]⟩] 49))
                  have HO3 := hide ((HOWN.out.alloc (.cells #[.int .i64 0, .int .i64 wd, .int .u64 0, .string ⟨#[]⟩] 49)).drew.alloc (.cells #[.int .i64 0, .int .i64 wd, .int .u64 0, .string ⟨#[]⟩] 49))
                  have HL3 := hide ((HLOW.out.alloc (.cells #[.int .i64 0, .int .i64 wd, .int .u64 0, .string ⟨#[]⟩] 49)).drew.alloc (.cells #[.int .i64 0, .int .i64 wd, .int .u64 0, .string ⟨#[]⟩] 49))
                  have HNEW := hide (new_row3d wr (.cells #[.int .i64 0, .int .i64 wd, .int .u64 0, .string ⟨#[]⟩] 49) 0 wd 0 ⟨#[]⟩)
                  have HGE := hide (fun j (h : (Value.slice a1 k k1).ownBlock = some j) => (HO3.out.lt j h).1)
                  go_wp2_with (at_builtin; first
                    | (refine wpList_append_own _ rfl _ _ 46 rfl w.heap.size 49 i0 (.agg #[.int .i64 0, .int .i64 0, .int .u64 0, .string ⟨#[]⟩]) 4 40 Try.underlying46 HI.out HZ0.out HZ1.out HZ2.out rfl (by decide) (.slice a1 k k1) k (O.flatMap fc) rfl HO3.out ⟨wr.heap.size + 1, 0, none⟩ 1 1 [.int .i64 0, .int .i64 wd, .int .u64 0, .string ⟨#[]⟩] rfl rfl HNEW.out (one4 _ _ _ _) (by unfold maxLen; omega) (by omega) HA3.out.size ?_
                       intro v' w' ho hgr hnil
                       obtain ⟨a3, c3', rfl⟩ := owns_slice_n ho
                       have HN := hide (ho.alloc (.cells #[.int .i64 0] 3))
                       have HBN := hide ((HA3.out.grown hgr HA3.out.size HGE.out).alloc (HA3.out.grown hgr HA3.out.size HGE.out).size (.cells #[.int .i64 0] 3))
                       have HL5 := hide ((owns_kept_other HL3.out HO3.out (by decide) hgr).alloc (.cells #[.int .i64 0] 3))
                       have HNEW2 := hide (new_one w' (.int .i64 0) 3)
                       have HGE2 := hide (fun j (h : (Value.slice a2 k k2).ownBlock = some j) => (HL5.out.lt j h).1)
                       clear ho hgr hnil)
                    | (refine wpList_append_own _ rfl _ _ 51 rfl w.heap.size 3 i1 (.int .i64 0) 1 8 Try.underlying51 HJ.out HJ0.out HJ1.out HJ2.out rfl (by decide) (.slice a2 k k2) k (lefts l) rfl HL5.out ⟨w'.heap.size, 0, none⟩ 1 1 [.int .i64 0] rfl rfl HNEW2.out (one1 _) (by unfold maxLen; omega) (by omega) HBN.out.size ?_
                       intro v'' w'' ho2 hgr2 hnil2
                       obtain ⟨a4, c4, rfl⟩ := owns_slice_n ho2
                       have HM1 := hide (owns_kept_other HN.out HL5.out (by decide) hgr2)
                       have HM2 := hide ho2
                       have HBM := hide (HBN.out.grown hgr2 HBN.out.size HGE2.out)
                       clear ho2 hgr2 hnil2))
                  go_roundw
                  case rel => exact ⟨k + 1, a3, a4, c3', c4, by omega, by go_num, by rw [HNXK.out]; rfl, by rw [HNXK.out], rfl, rfl, by rw [HNXK.out]; simp only; rw [flat_snoc]; exact HM1.out, by rw [HNXK.out]; simp only; rw [lefts_snoc]; exact HM2.out, HBM.out⟩
                  case measure => simp [intOf]; omega
              · rw [rdF_num0 s wd n t (by omega) (by omega) (by omega)] at HNXK
                simp only [show ∀ x, stS x false = x from fun _ => rfl] at HNXK
                rw [show (s.extract wd.toNat s.size).size = s.size - wd.toNat by rw [ByteArray.size_extract]; omega] at HNXK
                have hgz := getN_last8_lt (s.extract 0 wd.toNat).data.toList
                have HGT := hide (fun W => rget_any (s.extract 0 wd.toNat) (by rw [ByteArray.size_extract]; omega) W)
                go_wp2_with fail
                go_region
                all_goals
                  go_wp2_with fail
                  refine (HGT.out _).mono ?_
                  rintro e w2 ⟨rfl, rfl⟩
                  generalize getN (last8 (s.extract 0 wd.toNat).data.toList) = y at *
                  have HA3 := hide ((HB.out.alloc HB.out.size (.cells #[.int .i64 0, .int .i64 wd, .int .u64 (y : Int), .string ⟨#[]⟩] 49)).drew.alloc (HB.out.alloc HB.out.size (.cells #[.int .i64 0, .int .i64 wd, .int .u64 (y : Int), .string ⟨#[]⟩] 49)).drew.size (.cells #[.int .i64 0, .int .i64 wd, .int .u64 (y : Int), .string ⟨#[]⟩] 49))
                  have HO3 := hide ((HOWN.out.alloc (.cells #[.int .i64 0, .int .i64 wd, .int .u64 (y : Int), .string ⟨#[]⟩] 49)).drew.alloc (.cells #[.int .i64 0, .int .i64 wd, .int .u64 (y : Int), .string ⟨#[]⟩] 49))
                  have HL3 := hide ((HLOW.out.alloc (.cells #[.int .i64 0, .int .i64 wd, .int .u64 (y : Int), .string ⟨#[]⟩] 49)).drew.alloc (.cells #[.int .i64 0, .int .i64 wd, .int .u64 (y : Int), .string ⟨#[]⟩] 49))
                  have HNEW := hide (new_row3d wr (.cells #[.int .i64 0, .int .i64 wd, .int .u64 (y : Int), .string ⟨#[]⟩] 49) 0 wd (y : Int) ⟨#[]⟩)
                  have HGE := hide (fun j (h : (Value.slice a1 k k1).ownBlock = some j) => (HO3.out.lt j h).1)
                  go_wp2_with (at_builtin; first
                    | (refine wpList_append_own _ rfl _ _ 46 rfl w.heap.size 49 i0 (.agg #[.int .i64 0, .int .i64 0, .int .u64 0, .string ⟨#[]⟩]) 4 40 Try.underlying46 HI.out HZ0.out HZ1.out HZ2.out rfl (by decide) (.slice a1 k k1) k (O.flatMap fc) rfl HO3.out ⟨wr.heap.size + 1, 0, none⟩ 1 1 [.int .i64 0, .int .i64 wd, .int .u64 (y : Int), .string ⟨#[]⟩] rfl rfl HNEW.out (one4 _ _ _ _) (by unfold maxLen; omega) (by omega) HA3.out.size ?_
                       intro v' w' ho hgr hnil
                       obtain ⟨a3, c3', rfl⟩ := owns_slice_n ho
                       have HN := hide (ho.alloc (.cells #[.int .i64 ((s.size - wd.toNat : Nat) : Int)] 3))
                       have HBN := hide ((HA3.out.grown hgr HA3.out.size HGE.out).alloc (HA3.out.grown hgr HA3.out.size HGE.out).size (.cells #[.int .i64 ((s.size - wd.toNat : Nat) : Int)] 3))
                       have HL5 := hide ((owns_kept_other HL3.out HO3.out (by decide) hgr).alloc (.cells #[.int .i64 ((s.size - wd.toNat : Nat) : Int)] 3))
                       have HNEW2 := hide (new_one w' (.int .i64 ((s.size - wd.toNat : Nat) : Int)) 3)
                       have HGE2 := hide (fun j (h : (Value.slice a2 k k2).ownBlock = some j) => (HL5.out.lt j h).1)
                       clear ho hgr hnil)
                    | (refine wpList_append_own _ rfl _ _ 51 rfl w.heap.size 3 i1 (.int .i64 0) 1 8 Try.underlying51 HJ.out HJ0.out HJ1.out HJ2.out rfl (by decide) (.slice a2 k k2) k (lefts l) rfl HL5.out ⟨w'.heap.size, 0, none⟩ 1 1 [.int .i64 ((s.size - wd.toNat : Nat) : Int)] rfl rfl HNEW2.out (one1 _) (by unfold maxLen; omega) (by omega) HBN.out.size ?_
                       intro v'' w'' ho2 hgr2 hnil2
                       obtain ⟨a4, c4, rfl⟩ := owns_slice_n ho2
                       have HM1 := hide (owns_kept_other HN.out HL5.out (by decide) hgr2)
                       have HM2 := hide ho2
                       have HBM := hide (HBN.out.grown hgr2 HBN.out.size HGE2.out)
                       clear ho2 hgr2 hnil2))
                  go_roundw
                  case rel => exact ⟨k + 1, a3, a4, c3', c4, by omega, by go_num, by rw [HNXK.out]; rfl, by rw [HNXK.out], rfl, rfl, by rw [HNXK.out]; simp only; rw [flat_snoc]; exact HM1.out, by rw [HNXK.out]; simp only; rw [lefts_snoc]; exact HM2.out, HBM.out⟩
                  case measure => simp [intOf]; omega
        · by_cases hsz : s.size < 8
          · rw [rdF_less1 s wd n t (by omega)] at HNXK
            simp only [show stS s true = ⟨#[]⟩ from rfl] at HNXK
            go_wp2_with fail
            go_region
            all_goals
              have HA3 := hide ((HB.out.alloc HB.out.size (.cells #[.int .i64 1, .int .i64 wd, .int .u64 0, .string ⟨#[]⟩] 49)).drew.alloc (HB.out.alloc HB.out.size (.cells #[.int .i64 1, .int .i64 wd, .int .u64 0, .string ⟨#[]⟩] 49)).drew.size (.cells #[.int .i64 1, .int .i64 wd, .int .u64 0, .string ⟨#[]⟩] 49))
              have HO3 := hide ((HOWN.out.alloc (.cells #[.int .i64 1, .int .i64 wd, .int .u64 0, .string ⟨#[]⟩] 49)).drew.alloc (.cells #[.int .i64 1, .int .i64 wd, .int .u64 0, .string ⟨#[]⟩] 49))
              have HL3 := hide ((HLOW.out.alloc (.cells #[.int .i64 1, .int .i64 wd, .int .u64 0, .string ⟨#[]⟩] 49)).drew.alloc (.cells #[.int .i64 1, .int .i64 wd, .int .u64 0, .string ⟨#[]⟩] 49))
              have HNEW := hide (new_row3d wr (.cells #[.int .i64 1, .int .i64 wd, .int .u64 0, .string ⟨#[]⟩] 49) 1 wd 0 ⟨#[]⟩)
              have HGE := hide (fun j (h : (Value.slice a1 k k1).ownBlock = some j) => (HO3.out.lt j h).1)
              go_wp2_with (at_builtin; first
                | (refine wpList_append_own _ rfl _ _ 46 rfl w.heap.size 49 i0 (.agg #[.int .i64 0, .int .i64 0, .int .u64 0, .string ⟨#[]⟩]) 4 40 Try.underlying46 HI.out HZ0.out HZ1.out HZ2.out rfl (by decide) (.slice a1 k k1) k (O.flatMap fc) rfl HO3.out ⟨wr.heap.size + 1, 0, none⟩ 1 1 [.int .i64 1, .int .i64 wd, .int .u64 0, .string ⟨#[]⟩] rfl rfl HNEW.out (one4 _ _ _ _) (by unfold maxLen; omega) (by omega) HA3.out.size ?_
                   intro v' w' ho hgr hnil
                   obtain ⟨a3, c3', rfl⟩ := owns_slice_n ho
                   have HN := hide (ho.alloc (.cells #[.int .i64 0] 3))
                   have HBN := hide ((HA3.out.grown hgr HA3.out.size HGE.out).alloc (HA3.out.grown hgr HA3.out.size HGE.out).size (.cells #[.int .i64 0] 3))
                   have HL5 := hide ((owns_kept_other HL3.out HO3.out (by decide) hgr).alloc (.cells #[.int .i64 0] 3))
                   have HNEW2 := hide (new_one w' (.int .i64 0) 3)
                   have HGE2 := hide (fun j (h : (Value.slice a2 k k2).ownBlock = some j) => (HL5.out.lt j h).1)
                   clear ho hgr hnil)
                | (refine wpList_append_own _ rfl _ _ 51 rfl w.heap.size 3 i1 (.int .i64 0) 1 8 Try.underlying51 HJ.out HJ0.out HJ1.out HJ2.out rfl (by decide) (.slice a2 k k2) k (lefts l) rfl HL5.out ⟨w'.heap.size, 0, none⟩ 1 1 [.int .i64 0] rfl rfl HNEW2.out (one1 _) (by unfold maxLen; omega) (by omega) HBN.out.size ?_
                   intro v'' w'' ho2 hgr2 hnil2
                   obtain ⟨a4, c4, rfl⟩ := owns_slice_n ho2
                   have HM1 := hide (owns_kept_other HN.out HL5.out (by decide) hgr2)
                   have HM2 := hide ho2
                   have HBM := hide (HBN.out.grown hgr2 HBN.out.size HGE2.out)
                   clear ho2 hgr2 hnil2))
              go_roundw
              case rel => exact ⟨k + 1, a3, a4, c3', c4, by omega, by go_num, by rw [HNXK.out]; rfl, by rw [HNXK.out], rfl, rfl, by rw [HNXK.out]; simp only; rw [flat_snoc]; exact HM1.out, by rw [HNXK.out]; simp only; rw [lefts_snoc]; exact HM2.out, HBM.out⟩
              case measure => simp [intOf]; omega
          · rw [rdF_num1 s wd n t (by omega)] at HNXK
            simp only [show ∀ x, stS x false = x from fun _ => rfl] at HNXK
            rw [show (s.extract 8 s.size).size = s.size - 8 by rw [ByteArray.size_extract]; omega] at HNXK
            have hgz := getN_last8_lt (s.extract 0 8).data.toList
            have HGT := hide (fun W => rget_any (s.extract 0 8) (by rw [ByteArray.size_extract]; omega) W)
            go_wp2_with fail
            go_region
            all_goals
              go_wp2_with fail
              refine (HGT.out _).mono ?_
              rintro e w2 ⟨rfl, rfl⟩
              generalize getN (last8 (s.extract 0 8).data.toList) = y at *
              have HA3 := hide ((HB.out.alloc HB.out.size (.cells #[.int .i64 1, .int .i64 wd, .int .u64 (y : Int), .string ⟨#[]⟩] 49)).drew.alloc (HB.out.alloc HB.out.size (.cells #[.int .i64 1, .int .i64 wd, .int .u64 (y : Int), .string ⟨#[]⟩] 49)).drew.size (.cells #[.int .i64 1, .int .i64 wd, .int .u64 (y : Int), .string ⟨#[]⟩] 49))
              have HO3 := hide ((HOWN.out.alloc (.cells #[.int .i64 1, .int .i64 wd, .int .u64 (y : Int), .string ⟨#[]⟩] 49)).drew.alloc (.cells #[.int .i64 1, .int .i64 wd, .int .u64 (y : Int), .string ⟨#[]⟩] 49))
              have HL3 := hide ((HLOW.out.alloc (.cells #[.int .i64 1, .int .i64 wd, .int .u64 (y : Int), .string ⟨#[]⟩] 49)).drew.alloc (.cells #[.int .i64 1, .int .i64 wd, .int .u64 (y : Int), .string ⟨#[]⟩] 49))
              have HNEW := hide (new_row3d wr (.cells #[.int .i64 1, .int .i64 wd, .int .u64 (y : Int), .string ⟨#[]⟩] 49) 1 wd (y : Int) ⟨#[]⟩)
              have HGE := hide (fun j (h : (Value.slice a1 k k1).ownBlock = some j) => (HO3.out.lt j h).1)
              go_wp2_with (at_builtin; first
                | (refine wpList_append_own _ rfl _ _ 46 rfl w.heap.size 49 i0 (.agg #[.int .i64 0, .int .i64 0, .int .u64 0, .string ⟨#[]⟩]) 4 40 Try.underlying46 HI.out HZ0.out HZ1.out HZ2.out rfl (by decide) (.slice a1 k k1) k (O.flatMap fc) rfl HO3.out ⟨wr.heap.size + 1, 0, none⟩ 1 1 [.int .i64 1, .int .i64 wd, .int .u64 (y : Int), .string ⟨#[]⟩] rfl rfl HNEW.out (one4 _ _ _ _) (by unfold maxLen; omega) (by omega) HA3.out.size ?_
                   intro v' w' ho hgr hnil
                   obtain ⟨a3, c3', rfl⟩ := owns_slice_n ho
                   have HN := hide (ho.alloc (.cells #[.int .i64 ((s.size - 8 : Nat) : Int)] 3))
                   have HBN := hide ((HA3.out.grown hgr HA3.out.size HGE.out).alloc (HA3.out.grown hgr HA3.out.size HGE.out).size (.cells #[.int .i64 ((s.size - 8 : Nat) : Int)] 3))
                   have HL5 := hide ((owns_kept_other HL3.out HO3.out (by decide) hgr).alloc (.cells #[.int .i64 ((s.size - 8 : Nat) : Int)] 3))
                   have HNEW2 := hide (new_one w' (.int .i64 ((s.size - 8 : Nat) : Int)) 3)
                   have HGE2 := hide (fun j (h : (Value.slice a2 k k2).ownBlock = some j) => (HL5.out.lt j h).1)
                   clear ho hgr hnil)
                | (refine wpList_append_own _ rfl _ _ 51 rfl w.heap.size 3 i1 (.int .i64 0) 1 8 Try.underlying51 HJ.out HJ0.out HJ1.out HJ2.out rfl (by decide) (.slice a2 k k2) k (lefts l) rfl HL5.out ⟨w'.heap.size, 0, none⟩ 1 1 [.int .i64 ((s.size - 8 : Nat) : Int)] rfl rfl HNEW2.out (one1 _) (by unfold maxLen; omega) (by omega) HBN.out.size ?_
                   intro v'' w'' ho2 hgr2 hnil2
                   obtain ⟨a4, c4, rfl⟩ := owns_slice_n ho2
                   have HM1 := hide (owns_kept_other HN.out HL5.out (by decide) hgr2)
                   have HM2 := hide ho2
                   have HBM := hide (HBN.out.grown hgr2 HBN.out.size HGE2.out)
                   clear ho2 hgr2 hnil2))
              go_roundw
              case rel => exact ⟨k + 1, a3, a4, c3', c4, by omega, by go_num, by rw [HNXK.out]; rfl, by rw [HNXK.out], rfl, rfl, by rw [HNXK.out]; simp only; rw [flat_snoc]; exact HM1.out, by rw [HNXK.out]; simp only; rw [lefts_snoc]; exact HM2.out, HBM.out⟩
              case measure => simp [intOf]; omega
        · by_cases h00 : s.size = 0
          · rw [rdF_less2 s wd n t (.inl h00)] at HNXK
            simp only [show stS s true = ⟨#[]⟩ from rfl] at HNXK
            go_wp2_with fail
            go_region
            all_goals
              have HA3 := hide ((HB.out.alloc HB.out.size (.cells #[.int .i64 2, .int .i64 wd, .int .u64 0, .string ⟨#[]⟩] 49)).drew.alloc (HB.out.alloc HB.out.size (.cells #[.int .i64 2, .int .i64 wd, .int .u64 0, .string ⟨#[]⟩] 49)).drew.size (.cells #[.int .i64 2, .int .i64 wd, .int .u64 0, .string ⟨#[]⟩] 49))
              have HO3 := hide ((HOWN.out.alloc (.cells #[.int .i64 2, .int .i64 wd, .int .u64 0, .string ⟨#[]⟩] 49)).drew.alloc (.cells #[.int .i64 2, .int .i64 wd, .int .u64 0, .string ⟨#[]⟩] 49))
              have HL3 := hide ((HLOW.out.alloc (.cells #[.int .i64 2, .int .i64 wd, .int .u64 0, .string ⟨#[]⟩] 49)).drew.alloc (.cells #[.int .i64 2, .int .i64 wd, .int .u64 0, .string ⟨#[]⟩] 49))
              have HNEW := hide (new_row3d wr (.cells #[.int .i64 2, .int .i64 wd, .int .u64 0, .string ⟨#[]⟩] 49) 2 wd 0 ⟨#[]⟩)
              have HGE := hide (fun j (h : (Value.slice a1 k k1).ownBlock = some j) => (HO3.out.lt j h).1)
              go_wp2_with (at_builtin; first
                | (refine wpList_append_own _ rfl _ _ 46 rfl w.heap.size 49 i0 (.agg #[.int .i64 0, .int .i64 0, .int .u64 0, .string ⟨#[]⟩]) 4 40 Try.underlying46 HI.out HZ0.out HZ1.out HZ2.out rfl (by decide) (.slice a1 k k1) k (O.flatMap fc) rfl HO3.out ⟨wr.heap.size + 1, 0, none⟩ 1 1 [.int .i64 2, .int .i64 wd, .int .u64 0, .string ⟨#[]⟩] rfl rfl HNEW.out (one4 _ _ _ _) (by unfold maxLen; omega) (by omega) HA3.out.size ?_
                   intro v' w' ho hgr hnil
                   obtain ⟨a3, c3', rfl⟩ := owns_slice_n ho
                   have HN := hide (ho.alloc (.cells #[.int .i64 0] 3))
                   have HBN := hide ((HA3.out.grown hgr HA3.out.size HGE.out).alloc (HA3.out.grown hgr HA3.out.size HGE.out).size (.cells #[.int .i64 0] 3))
                   have HL5 := hide ((owns_kept_other HL3.out HO3.out (by decide) hgr).alloc (.cells #[.int .i64 0] 3))
                   have HNEW2 := hide (new_one w' (.int .i64 0) 3)
                   have HGE2 := hide (fun j (h : (Value.slice a2 k k2).ownBlock = some j) => (HL5.out.lt j h).1)
                   clear ho hgr hnil)
                | (refine wpList_append_own _ rfl _ _ 51 rfl w.heap.size 3 i1 (.int .i64 0) 1 8 Try.underlying51 HJ.out HJ0.out HJ1.out HJ2.out rfl (by decide) (.slice a2 k k2) k (lefts l) rfl HL5.out ⟨w'.heap.size, 0, none⟩ 1 1 [.int .i64 0] rfl rfl HNEW2.out (one1 _) (by unfold maxLen; omega) (by omega) HBN.out.size ?_
                   intro v'' w'' ho2 hgr2 hnil2
                   obtain ⟨a4, c4, rfl⟩ := owns_slice_n ho2
                   have HM1 := hide (owns_kept_other HN.out HL5.out (by decide) hgr2)
                   have HM2 := hide ho2
                   have HBM := hide (HBN.out.grown hgr2 HBN.out.size HGE2.out)
                   clear ho2 hgr2 hnil2))
              go_roundw
              case rel => exact ⟨k + 1, a3, a4, c3', c4, by omega, by go_num, by rw [HNXK.out]; rfl, by rw [HNXK.out], rfl, rfl, by rw [HNXK.out]; simp only; rw [flat_snoc]; exact HM1.out, by rw [HNXK.out]; simp only; rw [lefts_snoc]; exact HM2.out, HBM.out⟩
              case measure => simp [intOf]; omega
          · have hpos : 0 < s.size := by omega
            have hx : first s = s[0].toNat := by unfold first; rw [show (s.data.toList.getD 0 0) = s[0] by rw [← getElem_list s 0 hpos]; simp [List.getD, hpos]]
            have hx256 := s[0].toNat_lt
            by_cases hsz : s.size < 1 + s[0].toNat
            · rw [rdF_less2 s wd n t (by omega)] at HNXK
              simp only [show stS s true = ⟨#[]⟩ from rfl] at HNXK
              go_wp2_with fail
              go_region
              all_goals
                have HA3 := hide ((HB.out.alloc HB.out.size (.cells #[.int .i64 2, .int .i64 wd, .int .u64 0, .string ⟨#[]⟩] 49)).drew.alloc (HB.out.alloc HB.out.size (.cells #[.int .i64 2, .int .i64 wd, .int .u64 0, .string ⟨#[]⟩] 49)).drew.size (.cells #[.int .i64 2, .int .i64 wd, .int .u64 0, .string ⟨#[]⟩] 49))
                have HO3 := hide ((HOWN.out.alloc (.cells #[.int .i64 2, .int .i64 wd, .int .u64 0, .string ⟨#[]⟩] 49)).drew.alloc (.cells #[.int .i64 2, .int .i64 wd, .int .u64 0, .string ⟨#[]⟩] 49))
                have HL3 := hide ((HLOW.out.alloc (.cells #[.int .i64 2, .int .i64 wd, .int .u64 0, .string ⟨#[]⟩] 49)).drew.alloc (.cells #[.int .i64 2, .int .i64 wd, .int .u64 0, .string ⟨#[]⟩] 49))
                have HNEW := hide (new_row3d wr (.cells #[.int .i64 2, .int .i64 wd, .int .u64 0, .string ⟨#[]⟩] 49) 2 wd 0 ⟨#[]⟩)
                have HGE := hide (fun j (h : (Value.slice a1 k k1).ownBlock = some j) => (HO3.out.lt j h).1)
                go_wp2_with (at_builtin; first
                  | (refine wpList_append_own _ rfl _ _ 46 rfl w.heap.size 49 i0 (.agg #[.int .i64 0, .int .i64 0, .int .u64 0, .string ⟨#[]⟩]) 4 40 Try.underlying46 HI.out HZ0.out HZ1.out HZ2.out rfl (by decide) (.slice a1 k k1) k (O.flatMap fc) rfl HO3.out ⟨wr.heap.size + 1, 0, none⟩ 1 1 [.int .i64 2, .int .i64 wd, .int .u64 0, .string ⟨#[]⟩] rfl rfl HNEW.out (one4 _ _ _ _) (by unfold maxLen; omega) (by omega) HA3.out.size ?_
                     intro v' w' ho hgr hnil
                     obtain ⟨a3, c3', rfl⟩ := owns_slice_n ho
                     have HN := hide (ho.alloc (.cells #[.int .i64 0] 3))
                     have HBN := hide ((HA3.out.grown hgr HA3.out.size HGE.out).alloc (HA3.out.grown hgr HA3.out.size HGE.out).size (.cells #[.int .i64 0] 3))
                     have HL5 := hide ((owns_kept_other HL3.out HO3.out (by decide) hgr).alloc (.cells #[.int .i64 0] 3))
                     have HNEW2 := hide (new_one w' (.int .i64 0) 3)
                     have HGE2 := hide (fun j (h : (Value.slice a2 k k2).ownBlock = some j) => (HL5.out.lt j h).1)
                     clear ho hgr hnil)
                  | (refine wpList_append_own _ rfl _ _ 51 rfl w.heap.size 3 i1 (.int .i64 0) 1 8 Try.underlying51 HJ.out HJ0.out HJ1.out HJ2.out rfl (by decide) (.slice a2 k k2) k (lefts l) rfl HL5.out ⟨w'.heap.size, 0, none⟩ 1 1 [.int .i64 0] rfl rfl HNEW2.out (one1 _) (by unfold maxLen; omega) (by omega) HBN.out.size ?_
                     intro v'' w'' ho2 hgr2 hnil2
                     obtain ⟨a4, c4, rfl⟩ := owns_slice_n ho2
                     have HM1 := hide (owns_kept_other HN.out HL5.out (by decide) hgr2)
                     have HM2 := hide ho2
                     have HBM := hide (HBN.out.grown hgr2 HBN.out.size HGE2.out)
                     clear ho2 hgr2 hnil2))
                go_roundw
                case rel => exact ⟨k + 1, a3, a4, c3', c4, by omega, by go_num, by rw [HNXK.out]; rfl, by rw [HNXK.out], rfl, rfl, by rw [HNXK.out]; simp only; rw [flat_snoc]; exact HM1.out, by rw [HNXK.out]; simp only; rw [lefts_snoc]; exact HM2.out, HBM.out⟩
                case measure => simp [intOf]; omega
            · rw [rdF_text2 s wd n t h00 (by omega), hx, show 1 + s[0].toNat = (1 + (s[0].toNat : Int)).toNat by omega] at HNXK
              simp only [show ∀ x, stS x false = x from fun _ => rfl] at HNXK
              rw [show (s.extract (1 + (s[0].toNat : Int)).toNat s.size).size = s.size - (1 + (s[0].toNat : Int)).toNat by rw [ByteArray.size_extract]; omega] at HNXK
              go_wp2_with fail
              go_region
              all_goals
                have HA3 := hide ((HB.out.alloc HB.out.size (.cells #[.int .i64 2, .int .i64 wd, .int .u64 0, .string (s.extract 1 (1 + (s[0].toNat : Int)).toNat)] 49)).drew.alloc (HB.out.alloc HB.out.size (.cells #[.int .i64 2, .int .i64 wd, .int .u64 0, .string (s.extract 1 (1 + (s[0].toNat : Int)).toNat)] 49)).drew.size (.cells #[.int .i64 2, .int .i64 wd, .int .u64 0, .string (s.extract 1 (1 + (s[0].toNat : Int)).toNat)] 49))
                have HO3 := hide ((HOWN.out.alloc (.cells #[.int .i64 2, .int .i64 wd, .int .u64 0, .string (s.extract 1 (1 + (s[0].toNat : Int)).toNat)] 49)).drew.alloc (.cells #[.int .i64 2, .int .i64 wd, .int .u64 0, .string (s.extract 1 (1 + (s[0].toNat : Int)).toNat)] 49))
                have HL3 := hide ((HLOW.out.alloc (.cells #[.int .i64 2, .int .i64 wd, .int .u64 0, .string (s.extract 1 (1 + (s[0].toNat : Int)).toNat)] 49)).drew.alloc (.cells #[.int .i64 2, .int .i64 wd, .int .u64 0, .string (s.extract 1 (1 + (s[0].toNat : Int)).toNat)] 49))
                have HNEW := hide (new_row3d wr (.cells #[.int .i64 2, .int .i64 wd, .int .u64 0, .string (s.extract 1 (1 + (s[0].toNat : Int)).toNat)] 49) 2 wd 0 (s.extract 1 (1 + (s[0].toNat : Int)).toNat))
                have HGE := hide (fun j (h : (Value.slice a1 k k1).ownBlock = some j) => (HO3.out.lt j h).1)
                go_wp2_with (at_builtin; first
                  | (refine wpList_append_own _ rfl _ _ 46 rfl w.heap.size 49 i0 (.agg #[.int .i64 0, .int .i64 0, .int .u64 0, .string ⟨#[]⟩]) 4 40 Try.underlying46 HI.out HZ0.out HZ1.out HZ2.out rfl (by decide) (.slice a1 k k1) k (O.flatMap fc) rfl HO3.out ⟨wr.heap.size + 1, 0, none⟩ 1 1 [.int .i64 2, .int .i64 wd, .int .u64 0, .string (s.extract 1 (1 + (s[0].toNat : Int)).toNat)] rfl rfl HNEW.out (one4 _ _ _ _) (by unfold maxLen; omega) (by omega) HA3.out.size ?_
                     intro v' w' ho hgr hnil
                     obtain ⟨a3, c3', rfl⟩ := owns_slice_n ho
                     have HN := hide (ho.alloc (.cells #[.int .i64 ((s.size - (1 + (s[0].toNat : Int)).toNat : Nat) : Int)] 3))
                     have HBN := hide ((HA3.out.grown hgr HA3.out.size HGE.out).alloc (HA3.out.grown hgr HA3.out.size HGE.out).size (.cells #[.int .i64 ((s.size - (1 + (s[0].toNat : Int)).toNat : Nat) : Int)] 3))
                     have HL5 := hide ((owns_kept_other HL3.out HO3.out (by decide) hgr).alloc (.cells #[.int .i64 ((s.size - (1 + (s[0].toNat : Int)).toNat : Nat) : Int)] 3))
                     have HNEW2 := hide (new_one w' (.int .i64 ((s.size - (1 + (s[0].toNat : Int)).toNat : Nat) : Int)) 3)
                     have HGE2 := hide (fun j (h : (Value.slice a2 k k2).ownBlock = some j) => (HL5.out.lt j h).1)
                     clear ho hgr hnil)
                  | (refine wpList_append_own _ rfl _ _ 51 rfl w.heap.size 3 i1 (.int .i64 0) 1 8 Try.underlying51 HJ.out HJ0.out HJ1.out HJ2.out rfl (by decide) (.slice a2 k k2) k (lefts l) rfl HL5.out ⟨w'.heap.size, 0, none⟩ 1 1 [.int .i64 ((s.size - (1 + (s[0].toNat : Int)).toNat : Nat) : Int)] rfl rfl HNEW2.out (one1 _) (by unfold maxLen; omega) (by omega) HBN.out.size ?_
                     intro v'' w'' ho2 hgr2 hnil2
                     obtain ⟨a4, c4, rfl⟩ := owns_slice_n ho2
                     have HM1 := hide (owns_kept_other HN.out HL5.out (by decide) hgr2)
                     have HM2 := hide ho2
                     have HBM := hide (HBN.out.grown hgr2 HBN.out.size HGE2.out)
                     clear ho2 hgr2 hnil2))
                go_roundw
                case rel => exact ⟨k + 1, a3, a4, c3', c4, by omega, by go_num, by rw [HNXK.out]; rfl, by rw [HNXK.out], rfl, rfl, by rw [HNXK.out]; simp only; rw [flat_snoc]; exact HM1.out, by rw [HNXK.out]; simp only; rw [lefts_snoc]; exact HM2.out, HBM.out⟩
                case measure => simp [intOf]; omega
      · rw [show stS s true = ⟨#[]⟩ from rfl]
        rw [rdF_wrong s ⟨kk, wd, n, t⟩ (by simp only; omega)] at HNXK
        simp only [show stS s true = ⟨#[]⟩ from rfl] at HNXK
        obtain rfl | rfl | rfl : kk = 0 ∨ kk = 1 ∨ kk = 2 := by omega
        · by_cases hw1 : wd < 1
          · go_wp2_with fail
            go_region
            all_goals
              have HA3 := hide ((HB.out.alloc HB.out.size (.cells #[.int .i64 0, .int .i64 wd, .int .u64 0, .string ⟨#[]⟩] 49)).drew.alloc (HB.out.alloc HB.out.size (.cells #[.int .i64 0, .int .i64 wd, .int .u64 0, .string ⟨#[]⟩] 49)).drew.size (.cells #[.int .i64 0, .int .i64 wd, .int .u64 0, .string ⟨#[]⟩] 49))
              have HO3 := hide ((HOWN.out.alloc (.cells #[.int .i64 0, .int .i64 wd, .int .u64 0, .string ⟨#[]⟩] 49)).drew.alloc (.cells #[.int .i64 0, .int .i64 wd, .int .u64 0, .string ⟨#[]⟩] 49))
              have HL3 := hide ((HLOW.out.alloc (.cells #[.int .i64 0, .int .i64 wd, .int .u64 0, .string ⟨#[]⟩] 49)).drew.alloc (.cells #[.int .i64 0, .int .i64 wd, .int .u64 0, .string ⟨#[]⟩] 49))
              have HNEW := hide (new_row3d wr (.cells #[.int .i64 0, .int .i64 wd, .int .u64 0, .string ⟨#[]⟩] 49) 0 wd 0 ⟨#[]⟩)
              have HGE := hide (fun j (h : (Value.slice a1 k k1).ownBlock = some j) => (HO3.out.lt j h).1)
              go_wp2_with (at_builtin; first
                | (refine wpList_append_own _ rfl _ _ 46 rfl w.heap.size 49 i0 (.agg #[.int .i64 0, .int .i64 0, .int .u64 0, .string ⟨#[]⟩]) 4 40 Try.underlying46 HI.out HZ0.out HZ1.out HZ2.out rfl (by decide) (.slice a1 k k1) k (O.flatMap fc) rfl HO3.out ⟨wr.heap.size + 1, 0, none⟩ 1 1 [.int .i64 0, .int .i64 wd, .int .u64 0, .string ⟨#[]⟩] rfl rfl HNEW.out (one4 _ _ _ _) (by unfold maxLen; omega) (by omega) HA3.out.size ?_
                   intro v' w' ho hgr hnil
                   obtain ⟨a3, c3', rfl⟩ := owns_slice_n ho
                   have HN := hide (ho.alloc (.cells #[.int .i64 0] 3))
                   have HBN := hide ((HA3.out.grown hgr HA3.out.size HGE.out).alloc (HA3.out.grown hgr HA3.out.size HGE.out).size (.cells #[.int .i64 0] 3))
                   have HL5 := hide ((owns_kept_other HL3.out HO3.out (by decide) hgr).alloc (.cells #[.int .i64 0] 3))
                   have HNEW2 := hide (new_one w' (.int .i64 0) 3)
                   have HGE2 := hide (fun j (h : (Value.slice a2 k k2).ownBlock = some j) => (HL5.out.lt j h).1)
                   clear ho hgr hnil)
                | (refine wpList_append_own _ rfl _ _ 51 rfl w.heap.size 3 i1 (.int .i64 0) 1 8 Try.underlying51 HJ.out HJ0.out HJ1.out HJ2.out rfl (by decide) (.slice a2 k k2) k (lefts l) rfl HL5.out ⟨w'.heap.size, 0, none⟩ 1 1 [.int .i64 0] rfl rfl HNEW2.out (one1 _) (by unfold maxLen; omega) (by omega) HBN.out.size ?_
                   intro v'' w'' ho2 hgr2 hnil2
                   obtain ⟨a4, c4, rfl⟩ := owns_slice_n ho2
                   have HM1 := hide (owns_kept_other HN.out HL5.out (by decide) hgr2)
                   have HM2 := hide ho2
                   have HBM := hide (HBN.out.grown hgr2 HBN.out.size HGE2.out)
                   clear ho2 hgr2 hnil2))
              go_roundw
              case rel => exact ⟨k + 1, a3, a4, c3', c4, by omega, by go_num, by rw [HNXK.out]; rfl, by rw [HNXK.out], rfl, rfl, by rw [HNXK.out]; simp only; rw [flat_snoc]; exact HM1.out, by rw [HNXK.out]; simp only; rw [lefts_snoc]; exact HM2.out, HBM.out⟩
              case measure => simp [intOf]; omega
          · by_cases hw8 : 8 < wd
            · go_wp2_with fail
              go_region
              all_goals
                have HA3 := hide ((HB.out.alloc HB.out.size (.cells #[.int .i64 0, .int .i64 wd, .int .u64 0, .string ⟨#[]⟩] 49)).drew.alloc (HB.out.alloc HB.out.size (.cells #[.int .i64 0, .int .i64 wd, .int .u64 0, .string ⟨#[]⟩] 49)).drew.size (.cells #[.int .i64 0, .int .i64 wd, .int .u64 0, .string ⟨#[]⟩] 49))
                have HO3 := hide ((HOWN.out.alloc (.cells #[.int .i64 0, .int .i64 wd, .int .u64 0, .string ⟨#[]⟩] 49)).drew.alloc (.cells #[.int .i64 0, .int .i64 wd, .int .u64 0, .string ⟨#[]⟩] 49))
                have HL3 := hide ((HLOW.out.alloc (.cells #[.int .i64 0, .int .i64 wd, .int .u64 0, .string ⟨#[]⟩] 49)).drew.alloc (.cells #[.int .i64 0, .int .i64 wd, .int .u64 0, .string ⟨#[]⟩] 49))
                have HNEW := hide (new_row3d wr (.cells #[.int .i64 0, .int .i64 wd, .int .u64 0, .string ⟨#[]⟩] 49) 0 wd 0 ⟨#[]⟩)
                have HGE := hide (fun j (h : (Value.slice a1 k k1).ownBlock = some j) => (HO3.out.lt j h).1)
                go_wp2_with (at_builtin; first
                  | (refine wpList_append_own _ rfl _ _ 46 rfl w.heap.size 49 i0 (.agg #[.int .i64 0, .int .i64 0, .int .u64 0, .string ⟨#[]⟩]) 4 40 Try.underlying46 HI.out HZ0.out HZ1.out HZ2.out rfl (by decide) (.slice a1 k k1) k (O.flatMap fc) rfl HO3.out ⟨wr.heap.size + 1, 0, none⟩ 1 1 [.int .i64 0, .int .i64 wd, .int .u64 0, .string ⟨#[]⟩] rfl rfl HNEW.out (one4 _ _ _ _) (by unfold maxLen; omega) (by omega) HA3.out.size ?_
                     intro v' w' ho hgr hnil
                     obtain ⟨a3, c3', rfl⟩ := owns_slice_n ho
                     have HN := hide (ho.alloc (.cells #[.int .i64 0] 3))
                     have HBN := hide ((HA3.out.grown hgr HA3.out.size HGE.out).alloc (HA3.out.grown hgr HA3.out.size HGE.out).size (.cells #[.int .i64 0] 3))
                     have HL5 := hide ((owns_kept_other HL3.out HO3.out (by decide) hgr).alloc (.cells #[.int .i64 0] 3))
                     have HNEW2 := hide (new_one w' (.int .i64 0) 3)
                     have HGE2 := hide (fun j (h : (Value.slice a2 k k2).ownBlock = some j) => (HL5.out.lt j h).1)
                     clear ho hgr hnil)
                  | (refine wpList_append_own _ rfl _ _ 51 rfl w.heap.size 3 i1 (.int .i64 0) 1 8 Try.underlying51 HJ.out HJ0.out HJ1.out HJ2.out rfl (by decide) (.slice a2 k k2) k (lefts l) rfl HL5.out ⟨w'.heap.size, 0, none⟩ 1 1 [.int .i64 0] rfl rfl HNEW2.out (one1 _) (by unfold maxLen; omega) (by omega) HBN.out.size ?_
                     intro v'' w'' ho2 hgr2 hnil2
                     obtain ⟨a4, c4, rfl⟩ := owns_slice_n ho2
                     have HM1 := hide (owns_kept_other HN.out HL5.out (by decide) hgr2)
                     have HM2 := hide ho2
                     have HBM := hide (HBN.out.grown hgr2 HBN.out.size HGE2.out)
                     clear ho2 hgr2 hnil2))
                go_roundw
                case rel => exact ⟨k + 1, a3, a4, c3', c4, by omega, by go_num, by rw [HNXK.out]; rfl, by rw [HNXK.out], rfl, rfl, by rw [HNXK.out]; simp only; rw [flat_snoc]; exact HM1.out, by rw [HNXK.out]; simp only; rw [lefts_snoc]; exact HM2.out, HBM.out⟩
                case measure => simp [intOf]; omega
            · go_wp2_with fail
              go_region
              all_goals
                have HA3 := hide ((HB.out.alloc HB.out.size (.cells #[.int .i64 0, .int .i64 wd, .int .u64 0, .string ⟨#[]⟩] 49)).drew.alloc (HB.out.alloc HB.out.size (.cells #[.int .i64 0, .int .i64 wd, .int .u64 0, .string ⟨#[]⟩] 49)).drew.size (.cells #[.int .i64 0, .int .i64 wd, .int .u64 0, .string ⟨#[]⟩] 49))
                have HO3 := hide ((HOWN.out.alloc (.cells #[.int .i64 0, .int .i64 wd, .int .u64 0, .string ⟨#[]⟩] 49)).drew.alloc (.cells #[.int .i64 0, .int .i64 wd, .int .u64 0, .string ⟨#[]⟩] 49))
                have HL3 := hide ((HLOW.out.alloc (.cells #[.int .i64 0, .int .i64 wd, .int .u64 0, .string ⟨#[]⟩] 49)).drew.alloc (.cells #[.int .i64 0, .int .i64 wd, .int .u64 0, .string ⟨#[]⟩] 49))
                have HNEW := hide (new_row3d wr (.cells #[.int .i64 0, .int .i64 wd, .int .u64 0, .string ⟨#[]⟩] 49) 0 wd 0 ⟨#[]⟩)
                have HGE := hide (fun j (h : (Value.slice a1 k k1).ownBlock = some j) => (HO3.out.lt j h).1)
                go_wp2_with (at_builtin; first
                  | (refine wpList_append_own _ rfl _ _ 46 rfl w.heap.size 49 i0 (.agg #[.int .i64 0, .int .i64 0, .int .u64 0, .string ⟨#[]⟩]) 4 40 Try.underlying46 HI.out HZ0.out HZ1.out HZ2.out rfl (by decide) (.slice a1 k k1) k (O.flatMap fc) rfl HO3.out ⟨wr.heap.size + 1, 0, none⟩ 1 1 [.int .i64 0, .int .i64 wd, .int .u64 0, .string ⟨#[]⟩] rfl rfl HNEW.out (one4 _ _ _ _) (by unfold maxLen; omega) (by omega) HA3.out.size ?_
                     intro v' w' ho hgr hnil
                     obtain ⟨a3, c3', rfl⟩ := owns_slice_n ho
                     have HN := hide (ho.alloc (.cells #[.int .i64 0] 3))
                     have HBN := hide ((HA3.out.grown hgr HA3.out.size HGE.out).alloc (HA3.out.grown hgr HA3.out.size HGE.out).size (.cells #[.int .i64 0] 3))
                     have HL5 := hide ((owns_kept_other HL3.out HO3.out (by decide) hgr).alloc (.cells #[.int .i64 0] 3))
                     have HNEW2 := hide (new_one w' (.int .i64 0) 3)
                     have HGE2 := hide (fun j (h : (Value.slice a2 k k2).ownBlock = some j) => (HL5.out.lt j h).1)
                     clear ho hgr hnil)
                  | (refine wpList_append_own _ rfl _ _ 51 rfl w.heap.size 3 i1 (.int .i64 0) 1 8 Try.underlying51 HJ.out HJ0.out HJ1.out HJ2.out rfl (by decide) (.slice a2 k k2) k (lefts l) rfl HL5.out ⟨w'.heap.size, 0, none⟩ 1 1 [.int .i64 0] rfl rfl HNEW2.out (one1 _) (by unfold maxLen; omega) (by omega) HBN.out.size ?_
                     intro v'' w'' ho2 hgr2 hnil2
                     obtain ⟨a4, c4, rfl⟩ := owns_slice_n ho2
                     have HM1 := hide (owns_kept_other HN.out HL5.out (by decide) hgr2)
                     have HM2 := hide ho2
                     have HBM := hide (HBN.out.grown hgr2 HBN.out.size HGE2.out)
                     clear ho2 hgr2 hnil2))
                go_roundw
                case rel => exact ⟨k + 1, a3, a4, c3', c4, by omega, by go_num, by rw [HNXK.out]; rfl, by rw [HNXK.out], rfl, rfl, by rw [HNXK.out]; simp only; rw [flat_snoc]; exact HM1.out, by rw [HNXK.out]; simp only; rw [lefts_snoc]; exact HM2.out, HBM.out⟩
                case measure => simp [intOf]; omega
        · go_wp2_with fail
          go_region
          all_goals
            have HA3 := hide ((HB.out.alloc HB.out.size (.cells #[.int .i64 1, .int .i64 wd, .int .u64 0, .string ⟨#[]⟩] 49)).drew.alloc (HB.out.alloc HB.out.size (.cells #[.int .i64 1, .int .i64 wd, .int .u64 0, .string ⟨#[]⟩] 49)).drew.size (.cells #[.int .i64 1, .int .i64 wd, .int .u64 0, .string ⟨#[]⟩] 49))
            have HO3 := hide ((HOWN.out.alloc (.cells #[.int .i64 1, .int .i64 wd, .int .u64 0, .string ⟨#[]⟩] 49)).drew.alloc (.cells #[.int .i64 1, .int .i64 wd, .int .u64 0, .string ⟨#[]⟩] 49))
            have HL3 := hide ((HLOW.out.alloc (.cells #[.int .i64 1, .int .i64 wd, .int .u64 0, .string ⟨#[]⟩] 49)).drew.alloc (.cells #[.int .i64 1, .int .i64 wd, .int .u64 0, .string ⟨#[]⟩] 49))
            have HNEW := hide (new_row3d wr (.cells #[.int .i64 1, .int .i64 wd, .int .u64 0, .string ⟨#[]⟩] 49) 1 wd 0 ⟨#[]⟩)
            have HGE := hide (fun j (h : (Value.slice a1 k k1).ownBlock = some j) => (HO3.out.lt j h).1)
            go_wp2_with (at_builtin; first
              | (refine wpList_append_own _ rfl _ _ 46 rfl w.heap.size 49 i0 (.agg #[.int .i64 0, .int .i64 0, .int .u64 0, .string ⟨#[]⟩]) 4 40 Try.underlying46 HI.out HZ0.out HZ1.out HZ2.out rfl (by decide) (.slice a1 k k1) k (O.flatMap fc) rfl HO3.out ⟨wr.heap.size + 1, 0, none⟩ 1 1 [.int .i64 1, .int .i64 wd, .int .u64 0, .string ⟨#[]⟩] rfl rfl HNEW.out (one4 _ _ _ _) (by unfold maxLen; omega) (by omega) HA3.out.size ?_
                 intro v' w' ho hgr hnil
                 obtain ⟨a3, c3', rfl⟩ := owns_slice_n ho
                 have HN := hide (ho.alloc (.cells #[.int .i64 0] 3))
                 have HBN := hide ((HA3.out.grown hgr HA3.out.size HGE.out).alloc (HA3.out.grown hgr HA3.out.size HGE.out).size (.cells #[.int .i64 0] 3))
                 have HL5 := hide ((owns_kept_other HL3.out HO3.out (by decide) hgr).alloc (.cells #[.int .i64 0] 3))
                 have HNEW2 := hide (new_one w' (.int .i64 0) 3)
                 have HGE2 := hide (fun j (h : (Value.slice a2 k k2).ownBlock = some j) => (HL5.out.lt j h).1)
                 clear ho hgr hnil)
              | (refine wpList_append_own _ rfl _ _ 51 rfl w.heap.size 3 i1 (.int .i64 0) 1 8 Try.underlying51 HJ.out HJ0.out HJ1.out HJ2.out rfl (by decide) (.slice a2 k k2) k (lefts l) rfl HL5.out ⟨w'.heap.size, 0, none⟩ 1 1 [.int .i64 0] rfl rfl HNEW2.out (one1 _) (by unfold maxLen; omega) (by omega) HBN.out.size ?_
                 intro v'' w'' ho2 hgr2 hnil2
                 obtain ⟨a4, c4, rfl⟩ := owns_slice_n ho2
                 have HM1 := hide (owns_kept_other HN.out HL5.out (by decide) hgr2)
                 have HM2 := hide ho2
                 have HBM := hide (HBN.out.grown hgr2 HBN.out.size HGE2.out)
                 clear ho2 hgr2 hnil2))
            go_roundw
            case rel => exact ⟨k + 1, a3, a4, c3', c4, by omega, by go_num, by rw [HNXK.out]; rfl, by rw [HNXK.out], rfl, rfl, by rw [HNXK.out]; simp only; rw [flat_snoc]; exact HM1.out, by rw [HNXK.out]; simp only; rw [lefts_snoc]; exact HM2.out, HBM.out⟩
            case measure => simp [intOf]; omega
        · go_wp2_with fail
          go_region
          all_goals
            have HA3 := hide ((HB.out.alloc HB.out.size (.cells #[.int .i64 2, .int .i64 wd, .int .u64 0, .string ⟨#[]⟩] 49)).drew.alloc (HB.out.alloc HB.out.size (.cells #[.int .i64 2, .int .i64 wd, .int .u64 0, .string ⟨#[]⟩] 49)).drew.size (.cells #[.int .i64 2, .int .i64 wd, .int .u64 0, .string ⟨#[]⟩] 49))
            have HO3 := hide ((HOWN.out.alloc (.cells #[.int .i64 2, .int .i64 wd, .int .u64 0, .string ⟨#[]⟩] 49)).drew.alloc (.cells #[.int .i64 2, .int .i64 wd, .int .u64 0, .string ⟨#[]⟩] 49))
            have HL3 := hide ((HLOW.out.alloc (.cells #[.int .i64 2, .int .i64 wd, .int .u64 0, .string ⟨#[]⟩] 49)).drew.alloc (.cells #[.int .i64 2, .int .i64 wd, .int .u64 0, .string ⟨#[]⟩] 49))
            have HNEW := hide (new_row3d wr (.cells #[.int .i64 2, .int .i64 wd, .int .u64 0, .string ⟨#[]⟩] 49) 2 wd 0 ⟨#[]⟩)
            have HGE := hide (fun j (h : (Value.slice a1 k k1).ownBlock = some j) => (HO3.out.lt j h).1)
            go_wp2_with (at_builtin; first
              | (refine wpList_append_own _ rfl _ _ 46 rfl w.heap.size 49 i0 (.agg #[.int .i64 0, .int .i64 0, .int .u64 0, .string ⟨#[]⟩]) 4 40 Try.underlying46 HI.out HZ0.out HZ1.out HZ2.out rfl (by decide) (.slice a1 k k1) k (O.flatMap fc) rfl HO3.out ⟨wr.heap.size + 1, 0, none⟩ 1 1 [.int .i64 2, .int .i64 wd, .int .u64 0, .string ⟨#[]⟩] rfl rfl HNEW.out (one4 _ _ _ _) (by unfold maxLen; omega) (by omega) HA3.out.size ?_
                 intro v' w' ho hgr hnil
                 obtain ⟨a3, c3', rfl⟩ := owns_slice_n ho
                 have HN := hide (ho.alloc (.cells #[.int .i64 0] 3))
                 have HBN := hide ((HA3.out.grown hgr HA3.out.size HGE.out).alloc (HA3.out.grown hgr HA3.out.size HGE.out).size (.cells #[.int .i64 0] 3))
                 have HL5 := hide ((owns_kept_other HL3.out HO3.out (by decide) hgr).alloc (.cells #[.int .i64 0] 3))
                 have HNEW2 := hide (new_one w' (.int .i64 0) 3)
                 have HGE2 := hide (fun j (h : (Value.slice a2 k k2).ownBlock = some j) => (HL5.out.lt j h).1)
                 clear ho hgr hnil)
              | (refine wpList_append_own _ rfl _ _ 51 rfl w.heap.size 3 i1 (.int .i64 0) 1 8 Try.underlying51 HJ.out HJ0.out HJ1.out HJ2.out rfl (by decide) (.slice a2 k k2) k (lefts l) rfl HL5.out ⟨w'.heap.size, 0, none⟩ 1 1 [.int .i64 0] rfl rfl HNEW2.out (one1 _) (by unfold maxLen; omega) (by omega) HBN.out.size ?_
                 intro v'' w'' ho2 hgr2 hnil2
                 obtain ⟨a4, c4, rfl⟩ := owns_slice_n ho2
                 have HM1 := hide (owns_kept_other HN.out HL5.out (by decide) hgr2)
                 have HM2 := hide ho2
                 have HBM := hide (HBN.out.grown hgr2 HBN.out.size HGE2.out)
                 clear ho2 hgr2 hnil2))
            go_roundw
            case rel => exact ⟨k + 1, a3, a4, c3', c4, by omega, by go_num, by rw [HNXK.out]; rfl, by rw [HNXK.out], rfl, rfl, by rw [HNXK.out]; simp only; rw [flat_snoc]; exact HM1.out, by rw [HNXK.out]; simp only; rw [lefts_snoc]; exact HM2.out, HBM.out⟩
            case measure => simp [intOf]; omega
    · obtain rfl : k = m.length := by omega
      rw [HFIN.out] at hown hlow
      rw [HFIN.out]
      have HO := hide hown
      have HL := hide hlow
      clear hown hlow hB HOWN HLOW
      go_wp2_with fail
      go_ret3
      exact ⟨a1, k1, a2, k2, rfl, HO.out, HL.out, HB.out⟩
end Go.Proofs.Ytmhppjgclaahnaa
