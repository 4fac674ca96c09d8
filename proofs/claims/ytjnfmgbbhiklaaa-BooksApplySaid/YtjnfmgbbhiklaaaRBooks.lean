/-
  Layer 23: the document's Balance and set.
-/
import Derived.Test.YtjnfmgbbhiklaaaBooks6
import Derived.Test.YtjnfmgbbhiklaaaRCents4
--import Derived.Test.Zdbg
namespace Go.Proofs.Ytjnfmgbbhiklaaa
set_option linter.unusedSimpArgs false
set_option linter.unusedVariables false
open Go.RowKit Go.WideShapes Go.ChangeShapes Go.ChangeAt Go.Deep

theorem rtotal_owns (xs : List Int) (hx : ∀ x ∈ xs, inR x) (hn : xs.length ≤ 1000) (a : Option Addr) (c B : Nat) (w : World) (h : w.ownsRow B 2 1 (.slice a xs.length c) xs.length (xs.map (Value.int .i64))) :
    Calls Try.prog 22 #[.slice a xs.length c] w fun e w' => e = .returned (.tuple #[.int .i64 (sumV xs.sum), .int .i64 (sumE xs.sum)]) ∧ Below w.heap.size w w' := by
  rcases h.2 with ⟨h1, h2⟩ | ⟨g, cap, cur, h1, h2, h3, h4, h5, h6, h7⟩
  · obtain rfl : xs = [] := List.eq_nil_of_length_eq_zero h2
    rw [sum_nil0.1, sum_nil0.2]
    exact rtotal_zero a c w
  · simp only [Value.slice.injEq] at h1
    rw [h1.1]
    refine rtotal_any xs hx (by omega) g 0 c w (heap_lt h3) fun k hk => ?_
    rw [cell_of_block h3, Nat.zero_add, ← Array.getElem?_toList]
    have e := congrArg (fun l : List Value => l[k]?) h7
    simp only [Nat.mul_one] at e
    rw [List.getElem?_take_of_lt hk] at e
    rw [e, List.getElem?_map, List.getElem?_eq_getElem hk]
    simp [List.getD, hk]
theorem getB_skip {M : List LnM} {a : Int} : ∀ (k : Nat), (∀ j, j < k → ¬ (M.getD j ln0).c = a) → k ≤ M.length → getB M a = getB (M.drop k) a := by
  intro k
  induction k with
  | zero => intro _ _; rfl
  | succ k ih =>
    intro h hk
    rw [ih (fun j hj => h j (by omega)) (by omega)]
    have e : M.drop k = M.getD k ln0 :: M.drop (k + 1) := by
      rw [List.drop_eq_getElem_cons (by omega)]
      simp [List.getD, show k < M.length by omega]
    rw [e]
    show (if (M.getD k ln0).c = a then (M.getD k ln0).n else getB (M.drop (k + 1)) a) = _
    rw [if_neg (h k (by omega))]
theorem getB_hit {M : List LnM} {a : Int} {k : Nat} (hk : k < M.length) (h : ∀ j, j < k → ¬ (M.getD j ln0).c = a) (he : (M.getD k ln0).c = a) : getB M a = (M.getD k ln0).n := by
  rw [getB_skip k h (by omega)]
  have e : M.drop k = M.getD k ln0 :: M.drop (k + 1) := by
    rw [List.drop_eq_getElem_cons (by omega)]
    simp [List.getD, hk]
  rw [e]
  show (if (M.getD k ln0).c = a then (M.getD k ln0).n else _) = _
  rw [if_pos he]
theorem getB_miss {M : List LnM} {a : Int} (h : ∀ j, j < M.length → ¬ (M.getD j ln0).c = a) : getB M a = 0 := by
  rw [getB_skip M.length h (Nat.le_refl _), List.drop_length]
  rfl
set_option maxRecDepth 100000 in
set_option maxHeartbeats 1000000 in
theorem rbBal (M : List LnM) (hM : M.length ≤ 1000000) (a : Option Addr) (cap : Nat) (z : Int) (w : World) (hin : LnIn w a M) :
    Calls Try.prog 15 #[.slice a M.length cap, .int .i64 z] w fun e w' => e = .returned (.int .i64 (getB M z)) ∧ w = w' := by
  have HIN := hide hin
  have HH := hide (fun k h1 h2 h3 => getB_hit (M := M) (a := z) (k := k) h1 h2 h3)
  have HM := hide (fun h => getB_miss (M := M) (a := z) h)
  clear hin
  go_enter Try.func15, Try.ntmps15
  go_wp2_with fail
  go_loopw [5] (fun i W => ∃ k : Nat, k ≤ M.length ∧ i = .int .i64 k ∧ (∀ j, j < k → ¬ (M.getD j ln0).c = z) ∧ w = W) (fun i _ => M.length - (intOf i).toNat)
  case atStart => exact ⟨0, by omega, rfl, fun j hj => absurd hj (Nat.not_lt_zero j), rfl⟩
  case round =>
    obtain ⟨k, hk, rfl, hno, rfl⟩ := hrel
    have HNO := hide hno
    clear hno
    by_cases hlt : k < M.length
    · obtain ⟨b, off, rfl, hbl, c0, c1⟩ := HIN.out k hlt
      have HH2 := hide (HH.out k hlt HNO.out)
      have HNX := hide (fun (h : ¬ (M.getD k ln0).c = z) => show ∀ j, j < k + 1 → ¬ (M.getD j ln0).c = z from fun j hj => by
        by_cases e : j = k
        · subst e; exact h
        · exact HNO.out j (by omega))
      generalize M.getD k ln0 = x at *
      obtain ⟨xc, xn⟩ := x
      dsimp only at *
      by_cases he : xc = z
      · have HE := hide (HH2.out he)
        subst he
        go_wp2_with fail
        go_ret
        exact ⟨ret_int HE.out.symm, rfl⟩
      · have HN2 := hide (HNX.out he)
        go_wp2_with fail
        go_roundw
        case rel => exact ⟨k + 1, by omega, by go_num, HN2.out, trivial⟩
        case measure => simp [intOf]; omega
    · obtain rfl : k = M.length := by omega
      have HE := hide (HM.out HNO.out)
      go_wp2_with fail
      go_ret
      exact ⟨ret_int HE.out.symm, rfl⟩
/-- lines told -/
def LinesTo (K : List LnM) (w : World) (e : Ending) (w' : World) : Prop := ∃ (a : Option Addr) (c : Nat), e = .returned (.slice a K.length c) ∧ LnIn w' a K ∧ Below w.heap.size w w'
theorem beq_dec (n : Int) : (n == 0) = decide (n = 0) := by by_cases h : n = 0 <;> simp [h]
theorem setK_next (a n : Int) (M : List LnM) (k : Nat) (h : k < M.length) (z : List LnM × Bool) : (M.take (k + 1)).foldl (setK a n) z = setK a n ((M.take k).foldl (setK a n) z) (M.getD k ln0) := by
  rw [ln_next M k h, List.foldl_append]; rfl
theorem setK_len (a n : Int) : ∀ (M : List LnM) (z : List LnM × Bool), (M.foldl (setK a n) z).1.length ≤ z.1.length + 2 * M.length
  | [], z => by simp
  | x :: M, z => by
    rw [List.foldl_cons]
    have h1 := setK_len a n M (setK a n z x)
    have h2 : (setK a n z x).1.length ≤ z.1.length + 2 := by
      unfold setK
      split
      · simp only [List.length_append, List.length_singleton]
        split <;> simp
      · simp only [List.length_append]
        split <;> simp
    rw [List.length_cons]
    omega
set_option maxRecDepth 100000 in
set_option maxHeartbeats 1000000 in
theorem rbSet (M : List LnM) (hM : M.length ≤ 10000) (hr : RiseB M) (a : Option Addr) (cap : Nat) (ac n : Int) (w : World) (hin : LnIn w a M) :
    Calls Try.prog 23 #[.slice a M.length cap, .int .i64 ac, .int .i64 n] w (LinesTo (setB M ac n) w) := by
  obtain ⟨i0, hi, hz0, hz1, hz2⟩ := info_parts (show (Try.prog.info? 65).map (fun i => (i.zero, i.size, i.bytes)) = some (some (.agg #[.int .i64 0, .int .i64 0]), 2, 16) by kernel_rfl)
  have HI := hide hi
  have HZ0 := hide hz0
  have HZ1 := hide hz1
  have HZ2 := hide hz2
  have HIN := hide hin
  have HIS := hide (show setE ac n (M.foldl (setK ac n) ([], decide (n = 0))) = setB M ac n by have := setK_is (a := ac) (n := n) M [] hr; simpa using this)
  have HLN := hide (fun k => setK_len ac n (M.take k) ([], decide (n = 0)))
  have HNX := hide (fun k h => setK_next ac n M k h ([], decide (n = 0)))
  obtain ⟨zf, hzf⟩ : ∃ zf : Nat → List LnM × Bool, ∀ k, (M.take k).foldl (setK ac n) ([], decide (n = 0)) = zf k := ⟨_, fun _ => rfl⟩
  have H0 := hide (show zf 0 = ([], decide (n = 0)) by rw [← hzf]; rfl)
  have HALL := hide (show M.foldl (setK ac n) ([], decide (n = 0)) = zf M.length by rw [← hzf, List.take_length])
  have HSK := hide (fun (z : List LnM × Bool) (x : LnM) => show setK ac n z x = if z.2 = false ∧ ac ≤ x.c then ((z.1 ++ [⟨ac, n⟩]) ++ (if x.c = ac then [] else [x]), true) else (z.1 ++ (if x.c = ac then [] else [x]), z.2) from rfl)
  simp only [hzf] at HLN HNX
  rw [HALL.out] at HIS
  clear hi hz0 hz1 hz2 hin hzf HALL hr
  go_enter Try.func23, Try.ntmps23
  go_wp2_with fail
  go_loopw [7, 8, 9] (fun s d i W => ∃ (k : Nat) (a7 : Option Addr) (c7 : Nat), k ≤ M.length ∧ i = .int .i64 k ∧ d = .bool (zf k).2 ∧ s = .slice a7 (zf k).1.length c7 ∧ W.ownsRow w.heap.size 65 2 (.slice a7 (zf k).1.length c7) (zf k).1.length ((zf k).1.flatMap lnC) ∧ Below w.heap.size w W) (fun s d i _ => M.length - (intOf i).toNat)
  case atStart => exact ⟨0, none, 0, by omega, rfl, by rw [H0.out, ← beq_dec], by rw [H0.out]; rfl, by rw [H0.out]; exact World.ownsRow_nil _ _ _ _, Below.refl _ _⟩
  case round =>
    obtain ⟨k, a7, c7, hk, rfl, rfl, rfl, ho, hb⟩ := hrel
    have OW := hide ho
    have BW := hide hb
    clear ho hb
    have hzl : (zf k).1.length ≤ 20000 := by
      have := HLN.out k
      rw [List.length_take] at this
      simp at this
      omega
    by_cases hlt : k < M.length
    · have HST := hide (HNX.out k hlt)
      rw [HSK.out] at HST
      generalize zf k = z at *
      obtain ⟨Z, d⟩ := z
      dsimp only at *
      obtain ⟨b, off, rfl, hbl, c0, c1⟩ := HIN.out k hlt
      generalize M.getD k ln0 = x at *
      obtain ⟨xc, xn⟩ := x
      dsimp only at *
      have HC0 := hide (fun (W : World) (h : Below w.heap.size w W) => cell_keep c0 hbl h)
      have HC1 := hide (fun (W : World) (h : Below w.heap.size w W) => cell_keep c1 hbl h)
      clear c0 c1 hbl
      have e0 := HC0.out _ BW.out
      have e1 := HC1.out _ BW.out
      by_cases hd : d = false ∧ ac ≤ xc
      · rw [if_pos hd] at HST
        obtain ⟨rfl, hle⟩ := hd
        have hA1 := (Below.refl wr.heap.size wr).alloc (Nat.le_refl _) (.cells #[.int .i64 ac, .int .i64 n] 65)
        have XB1 := hide (heap_new wr (.cells #[.int .i64 ac, .int .i64 n] 65))
        have OM1 := hide (owns_below OW.out hA1)
        have BM1 := hide (BW.out.trans (hA1.mono BW.out.size))
        have hws1 : w.heap.size ≤ (wr.alloc (.cells #[.int .i64 ac, .int .i64 n] 65)).heap.size := BM1.out.size
        clear hA1 OW BW
        go_upto_region 9 with (at_builtin; refine wpList_append_own2 _ rfl _ _ 25 rfl w.heap.size 65 i0 (.agg #[.int .i64 0, .int .i64 0]) 2 16 Try.underlying25 HI.out HZ0.out HZ1.out HZ2.out rfl (by decide) (.slice a7 (Z.length) c7) (Z.length) (Z.flatMap lnC) rfl OM1.out ⟨wr.heap.size, 0, none⟩ 1 1 (by decide) (lnC ⟨ac, n⟩) rfl rfl (cells_new XB1.out) (lnC_one _) (by unfold maxLen; omega) (by omega) hws1 ?_; intro g1 c1' w1 ho hgr hnil; have OW := hide ho; have BW := hide (BM1.out.grown hgr BM1.out.size (fun jj hj => (OM1.out.lt jj hj).1)); clear ho hgr hnil)
        clear OM1 BM1 XB1 hws1 e0 e1
        have e0 := HC0.out _ BW.out
        have e1 := HC1.out _ BW.out
        by_cases he : xc = ac
        · rw [if_pos he] at HST
          subst he
          clear hle
          go_wp2_with fail
          go_roundw
          case rel => exact ⟨k + 1, some ⟨g1, 0, none⟩, c1', by omega, by go_num, by rw [HST.out], by rw [HST.out]; simp, by rw [HST.out]; simpa using OW.out, BW.out⟩
          case measure => simp [intOf]; omega
        · rw [if_neg he] at HST
          clear hle
          have hA2 := (Below.refl w1.heap.size w1).alloc (Nat.le_refl _) (.cells #[.int .i64 xc, .int .i64 xn] 65)
          have XB2 := hide (heap_new w1 (.cells #[.int .i64 xc, .int .i64 xn] 65))
          have OM2 := hide (owns_below OW.out hA2)
          have BM2 := hide (BW.out.trans (hA2.mono BW.out.size))
          have hws2 : w.heap.size ≤ (w1.alloc (.cells #[.int .i64 xc, .int .i64 xn] 65)).heap.size := BM2.out.size
          clear hA2 OW BW
          go_wp2_with (at_builtin; refine wpList_append_own2 _ rfl _ _ 25 rfl w.heap.size 65 i0 (.agg #[.int .i64 0, .int .i64 0]) 2 16 Try.underlying25 HI.out HZ0.out HZ1.out HZ2.out rfl (by decide) (.slice (some ⟨g1, 0, none⟩) (Z.length + 1) c1') (Z.length + 1) (Z.flatMap lnC ++ lnC ⟨ac, n⟩) rfl OM2.out ⟨w1.heap.size, 0, none⟩ 1 1 (by decide) (lnC ⟨xc, xn⟩) rfl rfl (cells_new XB2.out) (lnC_one _) (by unfold maxLen; omega) (by omega) hws2 ?_; intro g2 c2' w2 ho hgr hnil; have OW := hide ho; have BW := hide (BM2.out.grown hgr BM2.out.size (fun jj hj => (OM2.out.lt jj hj).1)); clear ho hgr hnil)
          clear OM2 BM2 XB2 hws2
          go_roundw
          case rel => exact ⟨k + 1, some ⟨g2, 0, none⟩, c2', by omega, by go_num, by rw [HST.out], by rw [HST.out]; simp, by rw [HST.out]; simpa using OW.out, BW.out⟩
          case measure => simp [intOf]; omega
      · rw [if_neg hd] at HST
        cases d with
        | true =>
          clear hd
          by_cases he : xc = ac
          · rw [if_pos he] at HST
            subst he
            go_wp2_with fail
            go_roundw
            case rel => exact ⟨k + 1, a7, c7, by omega, by go_num, by rw [HST.out], by rw [HST.out]; simp, by rw [HST.out]; simpa using OW.out, BW.out⟩
            case measure => simp [intOf]; omega
          · rw [if_neg he] at HST
            have hA3 := (Below.refl wr.heap.size wr).alloc (Nat.le_refl _) (.cells #[.int .i64 xc, .int .i64 xn] 65)
            have XB3 := hide (heap_new wr (.cells #[.int .i64 xc, .int .i64 xn] 65))
            have OM3 := hide (owns_below OW.out hA3)
            have BM3 := hide (BW.out.trans (hA3.mono BW.out.size))
            have hws3 : w.heap.size ≤ (wr.alloc (.cells #[.int .i64 xc, .int .i64 xn] 65)).heap.size := BM3.out.size
            clear hA3 OW BW
            go_wp2_with (at_builtin; refine wpList_append_own2 _ rfl _ _ 25 rfl w.heap.size 65 i0 (.agg #[.int .i64 0, .int .i64 0]) 2 16 Try.underlying25 HI.out HZ0.out HZ1.out HZ2.out rfl (by decide) (.slice a7 (Z.length) c7) (Z.length) (Z.flatMap lnC) rfl OM3.out ⟨wr.heap.size, 0, none⟩ 1 1 (by decide) (lnC ⟨xc, xn⟩) rfl rfl (cells_new XB3.out) (lnC_one _) (by unfold maxLen; omega) (by omega) hws3 ?_; intro g3 c3' w3 ho hgr hnil; have OW := hide ho; have BW := hide (BM3.out.grown hgr BM3.out.size (fun jj hj => (OM3.out.lt jj hj).1)); clear ho hgr hnil)
            clear OM3 BM3 XB3 hws3
            go_roundw
            case rel => exact ⟨k + 1, some ⟨g3, 0, none⟩, c3', by omega, by go_num, by rw [HST.out], by rw [HST.out]; simp, by rw [HST.out]; simpa using OW.out, BW.out⟩
            case measure => simp [intOf]; omega
        | false =>
          have hle : ¬ ac ≤ xc := fun h => hd ⟨rfl, h⟩
          have he : ¬ xc = ac := by omega
          rw [if_neg he] at HST
          clear hd
          have hA4 := (Below.refl wr.heap.size wr).alloc (Nat.le_refl _) (.cells #[.int .i64 xc, .int .i64 xn] 65)
          have XB4 := hide (heap_new wr (.cells #[.int .i64 xc, .int .i64 xn] 65))
          have OM4 := hide (owns_below OW.out hA4)
          have BM4 := hide (BW.out.trans (hA4.mono BW.out.size))
          have hws4 : w.heap.size ≤ (wr.alloc (.cells #[.int .i64 xc, .int .i64 xn] 65)).heap.size := BM4.out.size
          clear hA4 OW BW
          go_wp2_with (at_builtin; refine wpList_append_own2 _ rfl _ _ 25 rfl w.heap.size 65 i0 (.agg #[.int .i64 0, .int .i64 0]) 2 16 Try.underlying25 HI.out HZ0.out HZ1.out HZ2.out rfl (by decide) (.slice a7 (Z.length) c7) (Z.length) (Z.flatMap lnC) rfl OM4.out ⟨wr.heap.size, 0, none⟩ 1 1 (by decide) (lnC ⟨xc, xn⟩) rfl rfl (cells_new XB4.out) (lnC_one _) (by unfold maxLen; omega) (by omega) hws4 ?_; intro g4 c4' w4 ho hgr hnil; have OW := hide ho; have BW := hide (BM4.out.grown hgr BM4.out.size (fun jj hj => (OM4.out.lt jj hj).1)); clear ho hgr hnil)
          clear OM4 BM4 XB4 hws4
          go_roundw
          case rel => exact ⟨k + 1, some ⟨g4, 0, none⟩, c4', by omega, by go_num, by rw [HST.out], by rw [HST.out]; simp, by rw [HST.out]; simpa using OW.out, BW.out⟩
          case measure => simp [intOf]; omega
    · obtain rfl : k = M.length := by omega
      have HE := hide HIS.out
      generalize zf M.length = z at *
      obtain ⟨Z, d⟩ := z
      dsimp only at *
      cases d with
      | true =>
        have HE2 := hide (show Z = setB M ac n from HE.out)
        clear HNX HLN H0 HIS HE
        go_wp2_with fail
        go_ret
        exact ⟨a7, c7, by rw [← HE2.out]; rfl, by rw [← HE2.out]; exact LnIn.of_owns OW.out, BW.out⟩
      | false =>
        have HE2 := hide (show Z ++ [⟨ac, n⟩] = setB M ac n from HE.out)
        clear HNX HLN H0 HIS HE
        have hA5 := (Below.refl wr.heap.size wr).alloc (Nat.le_refl _) (.cells #[.int .i64 ac, .int .i64 n] 65)
        have XB5 := hide (heap_new wr (.cells #[.int .i64 ac, .int .i64 n] 65))
        have OM5 := hide (owns_below OW.out hA5)
        have BM5 := hide (BW.out.trans (hA5.mono BW.out.size))
        have hws5 : w.heap.size ≤ (wr.alloc (.cells #[.int .i64 ac, .int .i64 n] 65)).heap.size := BM5.out.size
        clear hA5 OW BW
        go_wp2_with (at_builtin; refine wpList_append_own2 _ rfl _ _ 25 rfl w.heap.size 65 i0 (.agg #[.int .i64 0, .int .i64 0]) 2 16 Try.underlying25 HI.out HZ0.out HZ1.out HZ2.out rfl (by decide) (.slice a7 (Z.length) c7) (Z.length) (Z.flatMap lnC) rfl OM5.out ⟨wr.heap.size, 0, none⟩ 1 1 (by decide) (lnC ⟨ac, n⟩) rfl rfl (cells_new XB5.out) (lnC_one _) (by unfold maxLen; omega) (by omega) hws5 ?_; intro g5 c5' w5 ho hgr hnil; have OW := hide ho; have BW := hide (BM5.out.grown hgr BM5.out.size (fun jj hj => (OM5.out.lt jj hj).1)); clear ho hgr hnil)
        clear OM5 BM5 XB5 hws5
        go_ret
        exact ⟨some ⟨g5, 0, none⟩, c5', by rw [← HE2.out]; simp, by rw [← HE2.out]; exact LnIn.of_owns (c := c5') (by simpa using OW.out), BW.out⟩
end Go.Proofs.Ytjnfmgbbhiklaaa
