/-
  Layer 25: the document's Right, Find and number.
-/
import Derived.Test.YtbnbfnlfgmlcgaaMSaleR
import Derived.Test.YtbnbfnlfgmlcgaaSale
import Derived.Test.YtbnbfnlfgmlcgaaKitRow
--import Derived.Test.Zdbg
namespace Go.Proofs.Ytbnbfnlfgmlcgaa
set_option linter.unusedSimpArgs false
set_option linter.unusedVariables false
open Go.RowKit Go.WideShapes Go.ChangeShapes Go.ChangeAt Go.Deep

/-- the document's register: its value, its row -/
structure RegD (w : World) (a : Option Addr) (cp : Nat) (T : List TxA) : Prop where
  row : w.ownsRow 0 38 8 (.slice a T.length cp) T.length (T.flatMap txC)
  lines : ∀ y ∈ T, LnTy 87 0 w y.la y.t.L
theorem RegD.below {w w' : World} {a : Option Addr} {cp : Nat} {T : List TxA} (h : RegD w a cp T) (hb : Below w.heap.size w w') : RegD w' a cp T := ⟨owns_below h.row hb, fun y hy => (h.lines y hy).below hb⟩
theorem RegD.keepsT {Ts : List TypeId} {w w' : World} {a : Option Addr} {cp : Nat} {T : List TxA} (h : RegD w a cp T) (hk : KeepsT Ts w w') (h1 : 38 ∉ Ts) (h2 : 87 ∉ Ts) : RegD w' a cp T := ⟨hk.owns h.row h1, fun y hy => (h.lines y hy).keepsT hk h2⟩
theorem RegD.drew {w : World} {a : Option Addr} {cp : Nat} {T : List TxA} (h : RegD w a cp T) : RegD w.drew a cp T := ⟨h.row, h.lines⟩
theorem RegD.nil (w : World) : RegD w none 0 [] := ⟨World.ownsRow_nil _ _ _ _, fun y hy => by cases hy⟩
theorem RegD.cap {w : World} {a : Option Addr} {cp : Nat} {T : List TxA} (h : RegD w a cp T) : T.length ≤ cp := by
  rcases h.row.2 with ⟨hv, hn⟩ | ⟨g, cap', cur, hv, hB, hg, hnc, _⟩
  · omega
  · simp only [Value.slice.injEq] at hv
    omega
/-- a row's cells -/
theorem RegD.at {w : World} {a : Option Addr} {cp : Nat} {T : List TxA} (h : RegD w a cp T) (i : Nat) (hi : i < T.length) : ∃ g, a = some ⟨g, 0, none⟩ ∧ g < w.heap.size ∧ ∀ j, j < 8 → w.cell? ⟨g, i * 8 + j, none⟩ = (txC (T.getD i ta0))[j]? := by
  obtain ⟨g, ha, -, hl, hc⟩ := owns_rows txC txC_length ta0 h.row i hi
  exact ⟨g, ha, hl, hc⟩
def regV (keep next : Int) (a : Option Addr) (n cp : Nat) : Value := .agg #[.int .i64 keep, .int .i64 next, .slice a n cp]
set_option maxRecDepth 100000 in
set_option maxHeartbeats 2000000 in
theorem rright_any (x : TxA) (hx : TxOk x.t) (w : World) (hin : LnIn w x.la x.t.L) :
    Calls Try.prog 27 #[txV x] w fun e w' => e = .returned (.bool (rightT x.t)) ∧ Below w.heap.size w w' := by
  obtain ⟨⟨num, k, s, r, am, le, vb, LL⟩, a, c⟩ := x
  have hlen : LL.length ≤ 1000 := hx.few
  unfold txV txC
  dsimp only at hin ⊢
  obtain ⟨bv, hbv⟩ : ∃ bv, rightT ⟨num, k, s, r, am, le, vb, LL⟩ = bv := ⟨_, rfl⟩
  rw [hbv]
  have HBV := hide hbv
  have hal := (Below.refl w.heap.size w).alloc (Nat.le_refl _) (.cells #[.int .i64 num, .int .u8 k, .int .i64 s, .int .i64 r, .int .i64 am, .int .i64 le, .bool vb, .slice a LL.length c] 38)
  have X1 := hide (heap_new w (.cells #[.int .i64 num, .int .u8 k, .int .i64 s, .int .i64 r, .int .i64 am, .int .i64 le, .bool vb, .slice a LL.length c] 38))
  have B1 := hide hal
  have HIN := hide (hin.below hal)
  clear hbv hx hin hal
  go_enter Try.func27, Try.ntmps27
  go_upto_region 1 with (fail)
  generalize w.alloc (.cells #[.int .i64 num, .int .u8 k, .int .i64 s, .int .i64 r, .int .i64 am, .int .i64 le, .bool vb, .slice a LL.length c] 38) = w1 at *
  obtain ⟨q, hq⟩ : ∃ q, w.heap.size = q := ⟨_, rfl⟩
  rw [hq] at X1 ⊢
  clear hq
  have c1 := cell_of_block X1.out 1
  have c2 := cell_of_block X1.out 2
  have c3 := cell_of_block X1.out 3
  have c4 := cell_of_block X1.out 4
  have c7 := cell_of_block X1.out 7
  by_cases h1 : k < 1
  · have hh : ¬ (1 ≤ k ∧ k ≤ 6) := by omega
    have HF := hide (show bv = false from by rw [← HBV.out]; simp [rightT, numT, hh])
    clear hh
    go_wp2_with fail
    go_ret
    exact ⟨by rw [HF.out]; (try rfl), B1.out⟩
  by_cases h2 : 6 < k
  · have hh : ¬ (1 ≤ k ∧ k ≤ 6) := by omega
    have HF := hide (show bv = false from by rw [← HBV.out]; simp [rightT, numT, hh])
    clear hh
    go_wp2_with fail
    go_ret
    exact ⟨by rw [HF.out]; (try rfl), B1.out⟩
  by_cases h3 : s < 1
  · have hh : ¬ (1 ≤ s ∧ s ≤ 4294967295) := by omega
    have HF := hide (show bv = false from by rw [← HBV.out]; simp [rightT, numT, hh])
    clear hh
    go_wp2_with fail
    go_ret
    exact ⟨by rw [HF.out]; (try rfl), B1.out⟩
  by_cases h4 : 4294967295 < s
  · have hh : ¬ (1 ≤ s ∧ s ≤ 4294967295) := by omega
    have HF := hide (show bv = false from by rw [← HBV.out]; simp [rightT, numT, hh])
    clear hh
    go_wp2_with fail
    go_ret
    exact ⟨by rw [HF.out]; (try rfl), B1.out⟩
  by_cases h5 : 8 < LL.length
  · have hh : ¬ LL.length ≤ 8 := by omega
    have h5i : (8 : Int) < (LL.length : Int) := by omega
    have HF := hide (show bv = false from by rw [← HBV.out]; simp [rightT, numT, hh])
    clear hh
    go_wp2_with fail
    go_ret
    exact ⟨by rw [HF.out]; (try rfl), B1.out⟩
  have h5i : ¬ (8 : Int) < (LL.length : Int) := by omega
  have hl8 : LL.length ≤ 8 := by omega
  have HG := hide (show (1 ≤ k ∧ k ≤ 6) ∧ (1 ≤ s ∧ s ≤ 4294967295) ∧ LL.length ≤ 8 from by omega)
  go_wp2_with fail
  clear h1 h2 h3 h4 h5 h5i hlen
  go_loopw [3] (fun i W => ∃ j : Nat, j ≤ LL.length ∧ i = .int .i64 j ∧ w1 = W ∧ (∀ m, m < j → 0 ≤ (LL.getD m ln0).c ∧ (LL.getD m ln0).c ≤ 65535)) (fun i _ => LL.length - (intOf i).toNat)
  case atStart => exact ⟨0, by omega, rfl, rfl, fun m hm => absurd hm (Nat.not_lt_zero m)⟩
  case round =>
    obtain ⟨j, hj, rfl, rfl, hacc⟩ := hrel
    have HACC := hide hacc
    clear hacc
    by_cases hlt : j < LL.length
    · obtain ⟨b, off, rfl, hbl, p0, p1⟩ := HIN.out j hlt
      have hbd : IntKind.i64.wrap ((j : Int) + 1) = (j : Int) + 1 := by rw [IntKind.wrap_i64]; omega
      have HJ := hide (show ∀ P : Prop, (¬ (0 ≤ (LL.getD j ln0).c ∧ (LL.getD j ln0).c ≤ 65535)) → (accT ⟨num, k, s, r, am, le, vb, LL⟩ = false) from fun _ hn => by
        unfold accT
        dsimp only
        rw [Bool.eq_false_iff]
        intro hall
        have := List.all_eq_true.1 hall (LL.getD j ln0) (ln_mem LL j hlt)
        exact hn (of_decide_eq_true this))
      generalize hyj : LL.getD j ln0 = y at *
      have HYJ := hide hyj
      obtain ⟨yc, yn⟩ := y
      dsimp only at p0 p1 HJ
      clear hyj
      by_cases q1 : yc < 0
      · have hh : accT ⟨num, k, s, r, am, le, vb, LL⟩ = false := HJ.out True (by omega)
        have HF := hide (show bv = false from by rw [← HBV.out]; simp [rightT, hh])
        clear hh
        have hlti : (j : Int) < (LL.length : Int) := by omega
        go_wp2_with fail
        go_ret
        exact ⟨by rw [HF.out]; (try rfl), B1.out⟩
      by_cases q2 : 65535 < yc
      · have hh : accT ⟨num, k, s, r, am, le, vb, LL⟩ = false := HJ.out True (by omega)
        have HF := hide (show bv = false from by rw [← HBV.out]; simp [rightT, hh])
        clear hh
        have hlti : (j : Int) < (LL.length : Int) := by omega
        go_wp2_with fail
        go_ret
        exact ⟨by rw [HF.out]; (try rfl), B1.out⟩
      have HQ := hide (show 0 ≤ yc ∧ yc ≤ 65535 from by omega)
      have hlti : (j : Int) < (LL.length : Int) := by omega
      go_wp2_with fail
      go_roundw
      case rel => exact ⟨j + 1, by omega, by go_num, by first | trivial | rfl, fun m hm => by
        by_cases e : m < j
        · exact HACC.out m e
        · obtain rfl : m = j := by omega
          rw [HYJ.out]; exact HQ.out⟩
      case measure => simp [intOf]; omega
    · obtain rfl : j = LL.length := by omega
      have HAC := hide (show accT ⟨num, k, s, r, am, le, vb, LL⟩ = true from by
        unfold accT
        dsimp only
        rw [List.all_eq_true]
        intro y hy
        obtain ⟨i, hi, rfl⟩ := List.getElem_of_mem hy
        have := HACC.out i hi
        rw [show LL.getD i ln0 = LL[i] by simp [List.getD, hi]] at this
        exact decide_eq_true this)
      clear hlt HACC
      have HEND := hide (show bv = (refT ⟨num, k, s, r, am, le, vb, LL⟩ && amtT ⟨num, k, s, r, am, le, vb, LL⟩) from by
        rw [← HBV.out]
        unfold rightT numT
        obtain ⟨g1, g2, g3⟩ := HG.out
        rw [HAC.out, decide_eq_true g1, decide_eq_true g2, decide_eq_true g3]
        simp)
      clear HG HAC HBV
      have HAM := hide (show amtT ⟨num, k, s, r, am, le, vb, LL⟩ = if k = 6 then decide (am = 0) else decide (1 ≤ am ∧ am ≤ 4611686018427387904) from rfl)
      have HRF := hide (show refT ⟨num, k, s, r, am, le, vb, LL⟩ = if backT k = true then numT r else decide (r = 0) from rfl)
      by_cases hb : k = 2 ∨ k = 3
      · have hk6 : ¬ k = 6 := by omega
        have HKB := hide (show backT k = true from decide_eq_true hb)
        have HK6 := hide hk6
        rcases hb with rfl | rfl
        all_goals
          by_cases h1 : r < 1
          · have HF := hide (show bv = false from by rw [HEND.out, HRF.out, if_pos HKB.out, show numT r = false from decide_eq_false (by omega)]; rfl)
            go_wp2_with fail
            go_ret
            exact ⟨by rw [HF.out]; (try rfl), B1.out⟩
          by_cases h2 : 4294967295 < r
          · have HF := hide (show bv = false from by rw [HEND.out, HRF.out, if_pos HKB.out, show numT r = false from decide_eq_false (by omega)]; rfl)
            go_wp2_with fail
            go_ret
            exact ⟨by rw [HF.out]; (try rfl), B1.out⟩
          have HF := hide (show bv = decide (1 ≤ am ∧ am ≤ 4611686018427387904) from by rw [HEND.out, HRF.out, if_pos HKB.out, show numT r = true from decide_eq_true (by omega), HAM.out, if_neg HK6.out, Bool.true_and])
          by_cases h3 : 1 ≤ am
          · have HF2 := hide (show bv = decide (am ≤ 4611686018427387904) from HF.out.trans (decide_eq_decide.2 ⟨fun h => h.2, fun h => ⟨h3, h⟩⟩))
            go_wp2_with fail
            go_ret
            exact ⟨by rw [HF2.out]; (try rfl), B1.out⟩
          · have HF2 := hide (show bv = false from HF.out.trans (decide_eq_false (fun h => h3 h.1)))
            have h4a : (1 ≤ am) = False := eq_false h3
            have h4b : decide (1 ≤ am) = false := decide_eq_false h3
            go_wp2_with fail
            go_ret
            exact ⟨by rw [HF2.out]; (try rfl), B1.out⟩
      · have hk2 : ¬ k = 2 := fun e => hb (.inl e)
        have hk3 : ¬ k = 3 := fun e => hb (.inr e)
        have hk2b : (k == 2) = false := beq_eq_false_iff_ne.mpr hk2
        have hk3b : (k == 3) = false := beq_eq_false_iff_ne.mpr hk3
        have HKB := hide (show ¬ backT k = true from by unfold backT; rw [decide_eq_true_eq]; exact hb)
        clear hb
        by_cases h1 : r = 0
        · have HR0 := hide h1
          subst h1
          by_cases h6 : k = 6
          · have HF := hide (show bv = decide (am = 0) from by rw [HEND.out, HRF.out, if_neg HKB.out, HAM.out, if_pos h6]; simp)
            subst h6
            by_cases h7 : am = 0
            · subst h7
              go_wp2_with fail
              go_ret
              exact ⟨by rw [HF.out]; (try rfl), B1.out⟩
            · have h7b : (am == 0) = false := beq_eq_false_iff_ne.mpr h7
              have h7c := decide_eq_false h7
              go_wp2_with fail
              go_ret
              exact ⟨by rw [HF.out, h7c]; (try rfl), B1.out⟩
          · have h6b : (k == 6) = false := beq_eq_false_iff_ne.mpr h6
            have HF := hide (show bv = decide (1 ≤ am ∧ am ≤ 4611686018427387904) from by rw [HEND.out, HRF.out, if_neg HKB.out, HAM.out, if_neg h6]; simp)
            by_cases h3 : 1 ≤ am
            · have HF2 := hide (show bv = decide (am ≤ 4611686018427387904) from HF.out.trans (decide_eq_decide.2 ⟨fun h => h.2, fun h => ⟨h3, h⟩⟩))
              go_wp2_with fail
              go_ret
              exact ⟨by rw [HF2.out]; (try rfl), B1.out⟩
            · have HF2 := hide (show bv = false from HF.out.trans (decide_eq_false (fun h => h3 h.1)))
              have h4a : (1 ≤ am) = False := eq_false h3
              have h4b : decide (1 ≤ am) = false := decide_eq_false h3
              go_wp2_with fail
              go_ret
              exact ⟨by rw [HF2.out]; (try rfl), B1.out⟩
        · have HF := hide (show bv = false from by rw [HEND.out, HRF.out, if_neg HKB.out, decide_eq_false h1]; rfl)
          have h1b : (r == 0) = false := beq_eq_false_iff_ne.mpr h1
          have h1c : (r != 0) = true := bne_iff_ne.mpr h1
          go_wp2_with fail
          go_ret
          exact ⟨by rw [HF.out]; (try rfl), B1.out⟩
/-- where a number is kept, or -1 -/
def findZ (M : List TxM) (next n : Int) : Int := match findT M.length next n with | some i => (i : Int) | none => -1
theorem findZ_at {M : List TxM} {next n : Int} (hN : NumsT M next) (k : Nat) (hk : k < M.length) (h : (M.getD k tx0).num = n) : findZ M next n = (k : Int) := by
  have h1 := hN k hk
  unfold findZ findT
  rw [if_neg (by omega)]
  dsimp only
  omega
theorem findZ_no {M : List TxM} {next n : Int} (hN : NumsT M next) (h : ∀ m, m < M.length → (M.getD m tx0).num ≠ n) : findZ M next n = -1 := by
  unfold findZ
  cases hf : findT M.length next n with
  | none => rfl
  | some i =>
    obtain ⟨h1, h2⟩ := findT_lt hf
    have h3 := hN i h1
    exact absurd (by omega) (h i h1)
theorem getD_tx (T : List TxA) (i : Nat) : (T.map (·.t)).getD i tx0 = (T.getD i ta0).t := by
  simp only [List.getD, List.getElem?_map]
  cases T[i]? <;> rfl
set_option maxRecDepth 100000 in
set_option maxHeartbeats 1000000 in
theorem rfind_any (keep next n : Int) (a : Option Addr) (cp : Nat) (T : List TxA) (hT : T.length ≤ 1000) (hN : NumsT (T.map (·.t)) next) (w : World) (h : RegD w a cp T) :
    Calls Try.prog 28 #[regV keep next a T.length cp, .int .i64 n] w fun e w' => e = .returned (.int .i64 (findZ (T.map (·.t)) next n)) ∧ Below w.heap.size w w' := by
  have HNF := hide (fun k hk hh => findZ_at (n := n) hN k hk hh)
  have HNO := hide (fun hh => findZ_no (n := n) hN hh)
  rw [List.length_map] at HNF HNO
  generalize findZ (T.map (·.t)) next n = z at *
  unfold regV
  have hal := (Below.refl w.heap.size w).alloc (Nat.le_refl _) (.cells #[.int .i64 keep, .int .i64 next, .slice a T.length cp] 27)
  have X1 := hide (heap_new w (.cells #[.int .i64 keep, .int .i64 next, .slice a T.length cp] 27))
  have D1 := hide (h.below hal)
  have B1 := hide hal
  clear h hal hN
  go_enter Try.func28, Try.ntmps28
  go_upto_region 1 with (fail)
  generalize w.alloc (.cells #[.int .i64 keep, .int .i64 next, .slice a T.length cp] 27) = w1 at *
  obtain ⟨q, hq⟩ : ∃ q, w.heap.size = q := ⟨_, rfl⟩
  rw [hq] at X1 ⊢
  clear hq
  have c2 := cell_of_block X1.out 2
  have HC := hide D1.out.cap
  go_wp2_with fail
  go_loopw [5] (fun i W => ∃ j : Nat, j ≤ T.length ∧ i = .int .i64 j ∧ w1 = W ∧ (∀ m, m < j → ((T.map (·.t)).getD m tx0).num ≠ n)) (fun i _ => T.length - (intOf i).toNat)
  case atStart => exact ⟨0, by omega, rfl, rfl, fun m hm => absurd hm (Nat.not_lt_zero m)⟩
  case round =>
    obtain ⟨j, hj, rfl, rfl, hacc⟩ := hrel
    have HACC := hide hacc
    clear hacc
    by_cases hlt : j < T.length
    · obtain ⟨g, rfl, hgl, hc⟩ := D1.out.at j hlt
      have p0 := hc 0 (by decide)
      have HG := hide (getD_tx T j)
      have hbd : IntKind.i64.wrap ((j : Int) + 1) = (j : Int) + 1 := by rw [IntKind.wrap_i64]; omega
      have hlti : (j : Int) < (T.length : Int) := by omega
      rw [show (txC (T.getD j ta0))[0]? = some (.int .i64 (T.getD j ta0).t.num) from rfl, Nat.add_zero] at p0
      generalize hyy : (T.getD j ta0).t.num = y at *
      have HYY := hide hyy
      clear hc hyy
      by_cases hy : y = n
      · have HZ := hide (HNF.out j hlt (by rw [HG.out, HYY.out]; exact hy))
        subst hy
        go_wp2_with fail
        go_ret
        exact ⟨by rw [HZ.out]; (try rfl), B1.out⟩
      · have HNY := hide hy
        go_wp2_with fail
        go_roundw
        case rel => exact ⟨j + 1, by omega, by go_num, by first | trivial | rfl, fun m hm => by
          by_cases e : m < j
          · exact HACC.out m e
          · obtain rfl : m = j := by omega
            rw [HG.out, HYY.out]; exact HNY.out⟩
        case measure => simp [intOf]; omega
    · obtain rfl : j = T.length := by omega
      have HZ := hide (HNO.out HACC.out)
      clear hlt
      go_wp2_with fail
      go_ret
      exact ⟨by rw [HZ.out]; (try rfl), B1.out⟩
end Go.Proofs.Ytbnbfnlfgmlcgaa
