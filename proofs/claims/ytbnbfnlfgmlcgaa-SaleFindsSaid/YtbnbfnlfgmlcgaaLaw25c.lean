/-
  Layer 25: SaleFinds: those that are looked for are just the kept ones that meet all that is asked; those that turned a sale back are the kept ones that name it. No condition.
-/
import Derived.Test.YtbnbfnlfgmlcgaaSaleC
--import Derived.Test.Zdbg
namespace Go.Proofs.Ytbnbfnlfgmlcgaa
set_option linter.unusedSimpArgs false
set_option linter.unusedVariables false
open Go.RowKit Go.WideShapes Go.ChangeShapes Go.ChangeAt Go.Deep

/-- two own lists of numbers, apart from each other -/
def TwoRows (W : World) (B : Nat) (sa sb : Value) (l1 l2 : List Int) : Prop := ∃ (aw ab : Option Addr) (cw cb : Nat), sa = .slice aw l1.length cw ∧ sb = .slice ab l2.length cb ∧ W.ownsRow B 3 1 (.slice aw l1.length cw) l1.length (l1.map (Value.int .i64)) ∧ W.ownsRow B 3 1 (.slice ab l2.length cb) l2.length (l2.map (Value.int .i64)) ∧ ∀ g, (Value.slice aw l1.length cw).ownBlock = some g → (Value.slice ab l2.length cb).ownBlock ≠ some g
theorem owns_apart {W W' : World} {B e m n : Nat} {v : Value} {xs : List Value} {o : Option Nat} (h : W.ownsRow B e m v n xs) (hg : W.grownBy W' o) (hne : ∀ g, v.ownBlock = some g → o ≠ some g) : W'.ownsRow B e m v n xs := by
  refine ⟨h.1, ?_⟩
  rcases h.2 with h3 | ⟨g, cap', cur, rfl, hB, hh, h4⟩
  · exact .inl h3
  · exact .inr ⟨g, cap', cur, rfl, hB, (hg.block g (heap_lt hh) (fun e => hne g rfl e.symm)).trans hh, h4⟩
theorem apart_new {W : World} {B e m n n1 c1 g3 : Nat} {v : Value} {xs : List Value} {ow : Option Nat} (h : W.ownsRow B e m v n xs) (hd : ∀ g, ow = some g → v.ownBlock ≠ some g) (hn : ow = some g3 ∨ W.heap.size ≤ g3) : ∀ g, (Value.slice (some ⟨g3, 0, none⟩) n1 c1).ownBlock = some g → v.ownBlock ≠ some g := by
  intro g hg hv
  have hg' : g3 = g := Option.some.inj hg
  subst hg'
  rcases hn with hn | hn
  · exact hd _ hn hv
  · have := (h.lt _ hv).2; omega
theorem wants_bools {K : List Int} {k s a l x0 x1 x2 x3 : Int} {L : List LnM} {o kb hs gv : Bool} (hk : kb = !(decide (0 < K.length ∧ ¬ k ∈ K))) (hh : hs = (decide (x1 = 0) || L.any fun l => decide (l.c = x1))) (hl : 0 ≤ l)
    (hg : gv = if 0 < K.length ∧ ¬ k ∈ K then false else if ¬ x0 = 0 ∧ ¬ s = x0 then false else if ¬ x1 = 0 ∧ (L.any fun x => decide (x.c = x1)) = false then false else if a < x2 ∨ x3 < a then false else if o = true ∧ (¬ k = 1 ∨ l = 0) then false else true) :
    gv = (kb && (hs && ((decide (x0 = 0) || decide (s = x0)) && (decide (x2 ≤ a) && (decide (a ≤ x3) && (!o || (decide (k = 1) && decide (0 < l)))))))) := by
  rw [hg, hk, hh]
  by_cases A : 0 < K.length ∧ ¬ k ∈ K
  · rw [if_pos A, decide_eq_true A]; rfl
  rw [if_neg A, decide_eq_false A]
  by_cases Bq : ¬ x0 = 0 ∧ ¬ s = x0
  · rw [if_pos Bq, decide_eq_false Bq.1, decide_eq_false Bq.2]; simp
  rw [if_neg Bq]
  have hB : (decide (x0 = 0) || decide (s = x0)) = true := by
    by_cases h : x0 = 0
    · rw [decide_eq_true h]; rfl
    · have : s = x0 := Classical.byContradiction fun h2 => Bq ⟨h, h2⟩
      rw [decide_eq_true this]; simp
  rw [hB]
  by_cases C : ¬ x1 = 0 ∧ (L.any fun x => decide (x.c = x1)) = false
  · rw [if_pos C, decide_eq_false C.1, C.2]; rfl
  rw [if_neg C]
  have hC : (decide (x1 = 0) || L.any fun l => decide (l.c = x1)) = true := by
    by_cases h : x1 = 0
    · rw [decide_eq_true h]; rfl
    · cases h2 : (L.any fun x => decide (x.c = x1)) with
      | true => simp
      | false => exact absurd ⟨h, h2⟩ C
  rw [hC]
  by_cases D : a < x2 ∨ x3 < a
  · rw [if_pos D]
    rcases D with D | D
    · rw [decide_eq_false (show ¬ x2 ≤ a by omega)]; simp
    · rw [decide_eq_false (show ¬ a ≤ x3 by omega)]; simp
  rw [if_neg D, decide_eq_true (show x2 ≤ a by omega), decide_eq_true (show a ≤ x3 by omega)]
  cases o with
  | false => rw [if_neg (fun h => by cases h.1)]; rfl
  | true =>
    by_cases k1 : k = 1
    · by_cases l0 : l = 0
      · rw [if_pos ⟨rfl, .inr l0⟩, decide_eq_false (show ¬ 0 < l by omega)]; simp
      · rw [if_neg (fun h => h.2.elim (fun h => h k1) l0), decide_eq_true k1, decide_eq_true (show 0 < l by omega)]; rfl
    · rw [if_pos ⟨rfl, .inl k1⟩, decide_eq_false k1]; rfl
theorem TwoRows.below {W W' : World} {B : Nat} {sa sb : Value} {l1 l2 : List Int} (h : TwoRows W B sa sb l1 l2) (hb : Below W.heap.size W W') : TwoRows W' B sa sb l1 l2 := by
  obtain ⟨aw, ab, cw, cb, h1, h2, h3, h4, h5⟩ := h
  exact ⟨aw, ab, cw, cb, h1, h2, owns_below h3 hb, owns_below h4 hb, h5⟩
set_option maxRecDepth 100000 in
set_option maxHeartbeats 4000000 in
theorem saleFinds_walk (v0 v1 : Value) (o : Bool) (W0 : World) (hz : ActsT W0 v0) (hv : IntsV5 v1) :
    Calls Try.prog 5 #[v0, v1, .bool o] W0 fun e w' => e = .returned (.bool true) ∧ Below W0.heap.size W0 w' := by
  obtain ⟨a, L, cap, rfl, hcap, h63, hin, hok⟩ := hz
  obtain ⟨x0, x1, x2, x3, x4, rfl, i0, i1, i2, i3, i4⟩ := hv
  generalize W0 = w at *
  obtain ⟨n, hn⟩ : ∃ n : Nat, min L.length 30 = n := ⟨_, rfl⟩
  have hmF : (if (30 : Int) < (L.length : Int) then (30 : Int) else (L.length : Int)) = (n : Int) := by split <;> omega
  have hmI : min (L.length : Int) 30 = (n : Int) := by omega
  have hn9 : n ≤ 30 := by omega
  have hnl : n ≤ L.length := by omega
  have hcI : (n : Int) ≤ (cap : Int) := by omega
  obtain ⟨i0', hi', hz0, hz1, hz2⟩ := info_parts (show (Try.prog.info? 3).map (fun i => (i.zero, i.size, i.bytes)) = some (some (.int .i64 0), 1, 8) by kernel_rfl)
  have HI := hide hi'
  have HZ0 := hide hz0
  have HZ1 := hide hz1
  have HZ2 := hide hz2
  clear hi' hz0 hz1 hz2
  have HOK := hide hok
  have HI0 := hide i0
  have HI1 := hide i1
  have HI4 := hide i4
  obtain ⟨okk, hokk⟩ : ∃ ob, ob = (Obj.cells #[.int .i64 x0, .int .i64 x1, .int .i64 x2, .int .i64 x3, .int .i64 x4] 75) := ⟨_, rfl⟩
  have al := (Below.refl w.heap.size w).alloc (Nat.le_refl _) okk
  have XK := hide (show (w.alloc okk).heap[w.heap.size]? = some (.cells #[.int .i64 x0, .int .i64 x1, .int .i64 x2, .int .i64 x3, .int .i64 x4] 75 (0, 0)) by rw [heap_new, hokk])
  have BK := hide al
  have HIN := hide (hin.below al)
  have HSK := hide (show w.heap.size ≤ (w.alloc okk).heap.size by simp)
  clear hin hok hn al i0 i1 i2 i3 i4
  go_enter Try.func5, Try.ntmps5
  go_upto_region 1 with (fail)
  rw [← hokk]
  generalize (Value.agg #[.int .i64 x0, .int .i64 x1, .int .i64 x2, .int .i64 x3, .int .i64 x4]) = arrv at *
  generalize w.alloc okk = w0 at *
  obtain ⟨pk, hpk⟩ : ∃ k, w.heap.size = k := ⟨_, rfl⟩
  have HQ := hide hpk
  rw [hpk] at XK BK HSK ⊢
  have HPK := hide (heap_lt XK.out)
  clear hokk okk hpk
  obtain ⟨q, hq⟩ : ∃ k, w0.heap.size = k := ⟨_, rfl⟩
  have HQ0 := hide hq
  rw [hq] at HPK HSK
  go_wp2_with fail
  refine (slnew_ok 20 (by omega) (by omega) w0).mono ?_
  rintro e w1 ⟨p, rfl, h, hb⟩
  rw [hq] at h hb
  clear hq
  have R1 := hide h
  have B1 := hide hb
  clear h hb
  go_wp2_with fail
  refine (wakes25 w1).mono ?_
  rintro e w2 ⟨rfl, hb⟩
  have R2 := hide (R1.out.below hb)
  have B2 := hide (B1.out.trans (hb.mono (by have := heap_lt R1.out.head; have := R1.out.low; omega)))
  clear hb R1 B1
  go_wp2_with fail
  clear hmF hmI
  go_loopw [44] (fun i W => ∃ (j : Nat) (next : Int) (v : Value) (T : List TxA), j ≤ n ∧ i = .int .i64 j ∧ RegAt W q p 20 next v T ∧ Below q w0 W) (fun i _ => n - (intOf i).toNat)
  case atStart => exact ⟨0, 1, _, [], by omega, rfl, R2.out, B2.out⟩
  case round =>
    obtain ⟨j, next, v, T, hj, rfl, hr, hb⟩ := hrel
    have RG := hide hr
    have BW := hide hb
    clear hr hb R2 B2
    by_cases hlt : j < n
    · obtain ⟨b, off, rfl, hbl, c0, c1, c2, c3, c4⟩ := (HIN.out.below (show Below w0.heap.size w0 wr by rw [HQ0.out]; exact BW.out)) j (by omega)
      have HOX := hide (HOK.out (L.getD j actT0) (by have : j < L.length := by omega
                                                     simp [List.getD, this]))
      generalize L.getD j actT0 = x at *
      obtain ⟨xk, xs, xr, xa, xc⟩ := x
      dsimp only at *
      obtain ⟨ob, hob⟩ : ∃ ob, ob = (Obj.cells #[.int .u8 xk, .int .i64 xs, .int .i64 xr, .int .i64 xa, .int .i64 xc] 29) := ⟨_, rfl⟩
      have hal := (Below.refl wr.heap.size wr).alloc (Nat.le_refl _) ob
      have HSZ := hide (show q ≤ wr.heap.size by have := heap_lt RG.out.head; have := RG.out.low; omega)
      have X1 := hide (show (wr.alloc ob).heap[wr.heap.size]? = some (.cells #[.int .u8 xk, .int .i64 xs, .int .i64 xr, .int .i64 xa, .int .i64 xc] 29 (0, 0)) by rw [heap_new, hob])
      have RG1 := hide (RG.out.below hal)
      have BW1 := hide (BW.out.trans (hal.mono HSZ.out))
      go_upto_region 7 with (fail)
      rw [← hob]
      clear hal RG BW hbl c0 c1 c2 c3 c4
      have HSZ1 := hide (show q ≤ (wr.alloc ob).heap.size by have := heap_lt RG1.out.head; have := RG1.out.low; omega)
      generalize wr.alloc ob = w3 at *
      generalize wr.heap.size = q1 at *
      clear hob ob HSZ
      have d0 := cell_of_block X1.out 0
      have d1 := cell_of_block X1.out 1
      have d2 := cell_of_block X1.out 2
      have d3 := cell_of_block X1.out 3
      have d4 := cell_of_block X1.out 4
      have HTO := hide (ofTx_ok HOX.out.1 HOX.out.2.1 HOX.out.2.2.1 HOX.out.2.2.2.1 HOX.out.2.2.2.2)
      go_wp2_with fail
      refine (of_any xk xs xr xa xc w3).mono ?_
      rintro e w4 ⟨la, lc, lb, bc, rfl, hla, -, hb⟩
      have LA := hide (show LnT w4 la (ofTx xk xs xr xa xc).L from hla)
      have RG4 := hide (RG1.out.below hb)
      have BW4 := hide (BW1.out.trans (hb.mono HSZ1.out))
      clear hla hb RG1 BW1 X1 d0 d1 d2 d3 d4
      generalize ofTx xk xs xr xa xc = t at *
      unfold txV txC
      go_upto_region 8 with (fail)
      obtain ⟨oa, hoa⟩ : ∃ ob, ob = (Obj.cells #[.int .i64 t.num, .int .u8 t.kind, .int .i64 t.shift, .int .i64 t.ref, .int .i64 t.amt, .int .i64 t.left, .bool t.void, .slice la t.L.length lc] 35) := ⟨_, rfl⟩
      obtain ⟨oc, hoc⟩ : ∃ ob, ob = (Obj.cells #[.int .i64 0, .int .u8 xk, .int .i64 xs, .int .i64 xr, .int .i64 xa, .int .i64 0, .bool false, .slice lb (ofL xc).length bc] 38) := ⟨_, rfl⟩
      rw [← hoa, ← hoc]
      have al := (Below.refl w4.heap.size w4).alloc (Nat.le_refl _) oa
      have al2 := al.alloc (show w4.heap.size ≤ (w4.alloc oa).heap.size by simp) oc
      have X4 := hide (show ((w4.alloc oa).alloc oc).heap[w4.heap.size]? = some (.cells #[.int .i64 t.num, .int .u8 t.kind, .int .i64 t.shift, .int .i64 t.ref, .int .i64 t.amt, .int .i64 t.left, .bool t.void, .slice la t.L.length lc] 35 (0, 0)) by rw [heap_old _ _ _ (by simp), heap_new, hoa])
      have RG5 := hide (RG4.out.below al2)
      have LA5 := hide (LA.out.below al2)
      have BW5 := hide (BW4.out.trans (al2.mono (by have := heap_lt RG4.out.head; have := RG4.out.low; omega)))
      clear al al2 RG4 LA BW4
      generalize (w4.alloc oa).alloc oc = w5 at *
      generalize w4.heap.size = q4 at *
      clear hoa hoc oa oc HSZ1
      have d0 := cell_of_block X4.out 0
      have d1 := cell_of_block X4.out 1
      have d2 := cell_of_block X4.out 2
      have d3 := cell_of_block X4.out 3
      have d4 := cell_of_block X4.out 4
      have d5 := cell_of_block X4.out 5
      have d6 := cell_of_block X4.out 6
      have d7 := cell_of_block X4.out 7
      go_wp2_with fail
      refine (sladd_any q p 20 next v T ⟨t, la, lc⟩ HTO.out w5 LA5.out RG5.out).mono ?_
      rintro e w6 ⟨v', T', rfl, hr, hm, hb, -⟩
      have RG6 := hide hr
      have BW6 := hide (BW5.out.trans hb)
      clear d0 d1 d2 d3 d4 d5 d6 d7 hr hm hb X4 RG5 LA5 BW5
      go_wp2_with fail
      go_roundw
      case rel => exact ⟨j + 1, _, v', T', by omega, by go_num, RG6.out, BW6.out⟩
      case measure => simp [intOf]; omega
    · obtain rfl : j = n := by omega
      have XKW := hide ((BW.out.block _ HPK.out).trans XK.out)
      have k0 := cell_of_block XKW.out 0
      have k1 := cell_of_block XKW.out 1
      have k2 := cell_of_block XKW.out 2
      have k3 := cell_of_block XKW.out 3
      have k4 := cell_of_block XKW.out 4
      obtain ⟨u, huF, huI, hu0⟩ : ∃ u : Int, (if 0 < x4 then x4 else 0) = u ∧ max 0 x4 = u ∧ 0 ≤ u := ⟨max 0 x4, by split <;> omega, rfl, by omega⟩
      obtain ⟨r, hr1, hr2, hr3⟩ : ∃ r : Int, u.tmod 7 = r ∧ 0 ≤ r ∧ r ≤ 6 := ⟨_, rfl, by rw [Int.tmod_eq_emod_of_nonneg hu0]; omega, by rw [Int.tmod_eq_emod_of_nonneg hu0]; omega⟩
      have hwr : IntKind.u8.wrap (1 + r) = 1 + r := by
        have e : ∀ x : Int, 0 ≤ x ∧ x ≤ 255 → IntKind.u8.wrap x = x := fun x hx => by
          simp [IntKind.wrap, IntKind.signed, IntKind.bits]; omega
        exact e _ (by omega)
      go_upto_region 11 with (fail)
      obtain ⟨oz, hoz⟩ : ∃ ob, ob = (Obj.cells #[.slice none 0 0, .int .i64 x0, .int .i64 x1, .int .i64 x2, .int .i64 x3, .bool o] 78) := ⟨_, rfl⟩
      rw [← hoz]
      have al := (Below.refl wr.heap.size wr).alloc (Nat.le_refl _) oz
      have HSR := hide (show q ≤ wr.heap.size by have := heap_lt RG.out.head; have := RG.out.low; omega)
      have XZ := hide (show (wr.alloc oz).heap[wr.heap.size]? = some (.cells #[.slice none 0 0, .int .i64 x0, .int .i64 x1, .int .i64 x2, .int .i64 x3, .bool o] 78 (0, 0)) by rw [heap_new, hoz])
      have RG1 := hide (RG.out.below al)
      have BW1 := hide (BW.out.trans (al.mono HSR.out))
      have XKW1 := hide ((al.block _ (heap_lt XKW.out)).trans XKW.out)
      clear al RG BW XKW k0 k1 k2 k3 k4
      have HQZ := hide (show q ≤ wr.heap.size from HSR.out)
      generalize wr.alloc oz = w1 at *
      generalize wr.heap.size = pz at *
      clear hoz oz HSR
      have XKW := XKW1
      have RG := RG1
      have BW := BW1
      clear XKW1 RG1 BW1
      have k0 := cell_of_block XKW.out 0
      have k1 := cell_of_block XKW.out 1
      have k2 := cell_of_block XKW.out 2
      have k3 := cell_of_block XKW.out 3
      have k4 := cell_of_block XKW.out 4
      go_upto_region 12 with (fail)
      generalize hkd : 1 + r = kd at *
      have hkd1 : 1 ≤ kd := by omega
      have hkd7 : kd ≤ 7 := by omega
      clear k0 k1 k2 k3 k4 hkd hr1 hr2 hr3 hwr huF huI hu0
      go_upto_if 74 with (fail)
      go_cut [] from 74 to 77 (fun W => ∃ (K : List Int) (ka : Option Addr) (kc : Nat), K.length ≤ 10 ∧ (∀ k : Int, (decide (6 < kd) || (decide (k = kd) || decide (k = 1))) = !(decide (0 < K.length ∧ ¬ k ∈ K))) ∧ KindsIn W ka K ∧ W.heap[pz]? = some (.cells #[.slice ka K.length kc, .int .i64 x0, .int .i64 x1, .int .i64 x2, .int .i64 x3, .bool o] 78 (0, 0)) ∧ RegAt W q p 20 next v T ∧ Below q w0 W)
      case first =>
        by_cases hk6 : kd ≤ 6
        · have al := (Below.refl w1.heap.size w1).alloc (Nat.le_refl _) (.cells #[.int .u8 kd, .int .u8 1] 30)
          have XL := hide (heap_new w1 (.cells #[.int .u8 kd, .int .u8 1] 30))
          have XZ1 := hide ((al.block _ (heap_lt XZ.out)).trans XZ.out)
          have RG1 := hide (RG.out.below al)
          have BW1 := hide (BW.out.trans (al.mono (by have := heap_lt RG.out.head; have := RG.out.low; omega)))
          have z0 := cell_of_block XZ1.out 0
          have zf := frozen_of_block XZ1.out 0
          go_wp2_with fail
          go_meet
          clear z0 zf al
          have K6 := hide (KeepsT.setCell (Ts := [78]) XZ1.out (by decide) 0 (.slice (some ⟨w1.heap.size, 0, none⟩) 2 2))
          have XL2 := hide (K6.out.cells XL.out (by decide))
          refine ⟨[kd, 1], some ⟨w1.heap.size, 0, none⟩, 2, by simp, fun k => ?_, fun i hi => ?_, block_setCell XZ1.out 0 (.slice (some ⟨w1.heap.size, 0, none⟩) 2 2), RG1.out.keepsT K6.out (by decide) (by decide) (by decide), BW1.out.setCell (p := ⟨pz, 0, none⟩) HQZ.out (.slice (some ⟨w1.heap.size, 0, none⟩) 2 2)⟩
          · rw [decide_eq_false (by omega), Bool.false_or, Bool.eq_iff_iff]
            simp
          · refine ⟨w1.heap.size, 0, rfl, heap_lt XL2.out, ?_⟩
            have h2 : i = 0 ∨ i = 1 := by simp at hi; omega
            rcases h2 with rfl | rfl
            · exact cell_of_block XL2.out 0
            · exact cell_of_block XL2.out 1
        · go_wp2_with fail
          go_meet
          refine ⟨[], none, 0, by simp, fun k => ?_, fun i hi => absurd hi (Nat.not_lt_zero i), XZ.out, RG.out, BW.out⟩
          rw [decide_eq_true (by omega), Bool.true_or]
          simp
      case rest =>
        obtain ⟨K, ka, kc, hK10, hKM, hKI, hXZ, hRG, hBW⟩ := hcut
        have HK10 := hide hK10
        have HKM := hide hKM
        have HKI := hide hKI
        clear XZ RG BW XKW
        have XZ := hide hXZ
        have RG := hide hRG
        have BW := hide hBW
        clear hK10 hKM hKI hXZ hRG hBW
        generalize wc = w6 at *
        have XKW := hide ((BW.out.block _ HPK.out).trans XK.out)
        go_upto_region 15 with (fail)
        go_wp2_with fail
        refine (sllist_any q p 20 next v T w6 RG.out).mono ?_
        rintro e w7 ⟨T6, a6, c6, hm6, rfl, ho, hln, hb⟩
        have hl6 : T6.length = T.length := by have := congrArg List.length hm6; simpa using this
        have HF20 := hide (show T6.length ≤ 20 by rw [hl6]; have := RG.out.few; omega)
        have HOKM := hide (show ∀ s ∈ T6.map (·.t), KeptT s by rw [hm6]; exact RG.out.ok)
        have RG7 := hide (RG.out.below hb)
        have XZ7 := hide ((hb.block _ (heap_lt XZ.out)).trans XZ.out)
        have XK7 := hide ((hb.block _ (heap_lt XKW.out)).trans XKW.out)
        have KI7 := hide (HKI.out.below hb)
        have BW7 := hide (BW.out.trans (hb.mono (by have := heap_lt RG.out.head; have := RG.out.low; omega)))
        rw [← hl6] at ho ⊢
        have LN7 := hide hln
        have HM6 := hide hm6
        generalize w6.heap.size = B6 at *
        obtain ⟨ln, hlnn⟩ : ∃ ln : Nat, T6.length = ln := ⟨_, rfl⟩
        have HLL := hide hlnn
        rw [hlnn] at ho HF20 ⊢
        have OW7 := hide ho
        clear ho hln hb hm6 hl6 hlnn RG BW XZ XKW HKI
        have HWX := hide (show ∀ t, wantsT ⟨K, ka, kc, x0, x1, x2, x3, o⟩ t = if 0 < K.length ∧ ¬ t.kind ∈ K then false else if ¬ x0 = 0 ∧ ¬ t.shift = x0 then false else if ¬ x1 = 0 ∧ (t.L.any fun x => decide (x.c = x1)) = false then false else if t.amt < x2 ∨ x3 < t.amt then false else if o = true ∧ (¬ t.kind = 1 ∨ t.left = 0) then false else true from fun t => rfl)
        have HFI := hide (fun W (hR : RegAt W q p 20 next v T) (hK : KindsIn W ka K) => slfind_ask ⟨K, ka, kc, x0, x1, x2, x3, o⟩ HK10.out q p 20 next v T W hR hK)
        have HFN := hide (fun W => slfind_nil ⟨K, ka, kc, x0, x1, x2, x3, o⟩ W)
        unfold askV at HFI HFN
        rw [← HM6.out] at HFI
        generalize wantsT ⟨K, ka, kc, x0, x1, x2, x3, o⟩ = G1 at *
        dsimp only at HFI HFN
        obtain ⟨M, hM⟩ : ∃ M, T6.map (·.t) = M := ⟨_, rfl⟩
        rw [hM] at HOKM HFI
        have HMD := hide (show ∀ i, i < ln → M.getD i tx0 = (T6.getD i ta0).t from fun i hi => by
          have hi' : i < T6.length := by rw [HLL.out]; exact hi
          rw [← hM]
          simp only [List.getD, List.getElem?_map, List.getElem?_eq_getElem hi']
          rfl)
        have HML := hide (show M.length = ln by rw [← hM, List.length_map]; exact HLL.out)
        have HMT := hide (show T.map (·.t) = M by rw [← hM]; exact HM6.out.symm)
        clear hM HM6
        have hf20 := HF20.out
        go_wp2_with fail
        go_loopw [15, 16, 81] (fun sa sb z W => ∃ i : Nat, i ≤ ln ∧ z = .int .i64 i ∧ TwoRows W w7.heap.size sa sb (wantM G1 (M.take i)) (wantM (backsT x0) (M.take i)) ∧ Below w7.heap.size w7 W) (fun sa sb z _ => ln - (intOf z).toNat)
        case atStart => exact ⟨0, by omega, rfl, ⟨none, none, 0, 0, rfl, rfl, World.ownsRow_nil _ _ _ _, World.ownsRow_nil _ _ _ _, fun g h => by cases h⟩, Below.refl _ _⟩
        case round =>
          obtain ⟨i, hi, rfl, htr, hb⟩ := hrel
          have TR := hide htr
          have BR := hide hb
          clear htr hb
          by_cases hlt2 : i < ln
          · obtain ⟨g, o', rfl, hg1, hg2, hcell, hfz⟩ := OffRow.rows txC txC_length ta0 (by rw [HLL.out]; exact OffRow.of_owns (owns_below OW7.out BR.out)) HLL.out.symm (by decide) i (by rw [HLL.out]; exact hlt2)
            have hmy : T6.getD i ta0 ∈ T6 := by have := HLL.out; simp [List.getD, show i < T6.length by omega]
            have HLY := hide ((LN7.out _ hmy).below BR.out)
            have hkept : KeptT (M.getD i tx0) := HOKM.out _ (by have := HML.out; simp [List.getD, show i < M.length by omega])
            have HN1 := hide (wantM_next G1 M i (by have := HML.out; omega))
            have HN2 := hide (wantM_next (backsT x0) M i (by have := HML.out; omega))
            have hl1 := wantM_len G1 (M.take i)
            have hl2 := wantM_len (backsT x0) (M.take i)
            rw [List.length_take] at hl1 hl2
            rw [HMD.out i hlt2] at HN1 HN2 hkept
            have HLF := hide (left_in hkept).1
            have HY8 := hide (right_parts hkept.2.1).2.2.1
            have HC3 := hide hcell
            clear hcell hfz hg1 hg2 hmy hkept
            generalize wantM G1 (M.take i) = l1 at *
            generalize wantM (backsT x0) (M.take i) = l2 at *
            have HL1 := hide (show l1.length ≤ 20 by omega)
            have HL2 := hide (show l2.length ≤ 20 by omega)
            clear hl1 hl2
            generalize T6.getD i ta0 = y at *
            obtain ⟨⟨ynum, ykind, yshift, yref, yamt, yleft, yvoid, YL⟩, ya, yc⟩ := y
            dsimp only at *
            have c0 : wr.cell? ⟨g, o' + i * 8, none⟩ = some (.int .i64 ynum) := HC3.out 0 (by decide)
            have c1 : wr.cell? ⟨g, o' + i * 8 + 1, none⟩ = some (.int .u8 ykind) := HC3.out 1 (by decide)
            have c2 : wr.cell? ⟨g, o' + i * 8 + 2, none⟩ = some (.int .i64 yshift) := HC3.out 2 (by decide)
            have c3 : wr.cell? ⟨g, o' + i * 8 + 3, none⟩ = some (.int .i64 yref) := HC3.out 3 (by decide)
            have c4 : wr.cell? ⟨g, o' + i * 8 + 4, none⟩ = some (.int .i64 yamt) := HC3.out 4 (by decide)
            have c5 : wr.cell? ⟨g, o' + i * 8 + 5, none⟩ = some (.int .i64 yleft) := HC3.out 5 (by decide)
            have c6' : wr.cell? ⟨g, o' + i * 8 + 6, none⟩ = some (.bool yvoid) := HC3.out 6 (by decide)
            have c7 : wr.cell? ⟨g, o' + i * 8 + 7, none⟩ = some (.slice ya YL.length yc) := HC3.out 7 (by decide)
            obtain ⟨ob, hob⟩ : ∃ ob, ob = (Obj.cells #[.int .i64 ynum, .int .u8 ykind, .int .i64 yshift, .int .i64 yref, .int .i64 yamt, .int .i64 yleft, .bool yvoid, .slice ya YL.length yc] 35) := ⟨_, rfl⟩
            have hal := (Below.refl wr.heap.size wr).alloc (Nat.le_refl _) ob
            have X8 := hide (show (wr.alloc ob).heap[wr.heap.size]? = some (.cells #[.int .i64 ynum, .int .u8 ykind, .int .i64 yshift, .int .i64 yref, .int .i64 yamt, .int .i64 yleft, .bool yvoid, .slice ya YL.length yc] 35 (0, 0)) by rw [heap_new, hob])
            have TR8 := hide (TR.out.below hal)
            have BR8 := hide (BR.out.trans (hal.mono BR.out.size))
            have LY8 := hide (HLY.out.below hal)
            go_upto_region 18 with (fail)
            rw [← hob]
            generalize (Value.agg #[.int .i64 ynum, .int .u8 ykind, .int .i64 yshift, .int .i64 yref, .int .i64 yamt, .int .i64 yleft, .bool yvoid, .slice ya YL.length yc]) = rowv at *
            clear hal TR BR HLY HC3 c0 c1 c2 c3 c4 c5 c6' c7
            generalize wr.alloc ob = w8 at *
            generalize wr.heap.size = q8 at *
            clear hob ob
            have XK8 := hide ((BR8.out.block _ (heap_lt XK7.out)).trans XK7.out)
            have k1 := cell_of_block XK8.out 1
            have d7 := cell_of_block X8.out 7
            have hy8 := HY8.out
            go_wp2_with fail
            clear k1 d7
            go_loopw [19, 91] (fun h z W => ∃ m : Nat, m ≤ YL.length ∧ z = .int .i64 m ∧ h = .bool (decide (x1 = 0) || (YL.take m).any fun l => decide (l.c = x1)) ∧ Below w8.heap.size w8 W) (fun h z _ => YL.length - (intOf z).toNat)
            case atStart => exact ⟨0, by omega, rfl, by rw [← beq_dec]; simp, Below.refl _ _⟩
            case round =>
              obtain ⟨m, hm, rfl, rfl, hb⟩ := hrel
              have BI := hide hb
              clear hb
              by_cases hlt3 : m < YL.length
              · obtain ⟨b, off, rfl, hbl, g0, g1⟩ := (LY8.out.below BI.out).lnIn m hlt3
                have HNX := hide (show (decide (x1 = 0) || (YL.take (m + 1)).any fun l => decide (l.c = x1)) = ((decide (x1 = 0) || (YL.take m).any fun l => decide (l.c = x1)) || decide ((YL.getD m ln0).c = x1)) by
                  rw [ln_next YL m hlt3, List.any_append, Bool.or_assoc]; simp)
                generalize YL.getD m ln0 = lx at *
                obtain ⟨lxc, lxn⟩ := lx
                dsimp only at *
                generalize (decide (x1 = 0) || (YL.take m).any fun l => decide (l.c = x1)) = hv at *
                have hal := (Below.refl wr.heap.size wr).alloc (Nat.le_refl _) (.cells #[.int .i64 lxc, .int .i64 lxn] 80)
                have XL := hide (heap_new wr (.cells #[.int .i64 lxc, .int .i64 lxn] 80))
                have BI2 := hide (BI.out.trans (hal.mono BI.out.size))
                go_upto_region 22 with (fail)
                clear hal hbl g0 g1
                generalize wr.alloc (.cells #[.int .i64 lxc, .int .i64 lxn] 80) = w9 at *
                generalize wr.heap.size = q9 at *
                have XK9 := hide ((BI2.out.block _ (heap_lt XK8.out)).trans XK8.out)
                have k1 := cell_of_block XK9.out 1
                have l0 := cell_of_block XL.out 0
                cases hv with
                | false =>
                  go_wp2_with fail
                  go_roundw
                  case rel => exact ⟨m + 1, by omega, by go_num, by rw [HNX.out, Bool.false_or, ← beq_dec], BI2.out⟩
                  case measure => simp [intOf]; omega
                | true =>
                  go_wp2_with fail
                  go_roundw
                  case rel => exact ⟨m + 1, by omega, by go_num, by rw [HNX.out, Bool.true_or], BI2.out⟩
                  case measure => simp [intOf]; omega
              · obtain rfl : m = YL.length := by omega
                rw [List.take_of_length_le (Nat.le_refl _)]
                have HHS := hide (show (decide (x1 = 0) || YL.any fun l => decide (l.c = x1)) = (decide (x1 = 0) || YL.any fun l => decide (l.c = x1)) from rfl)
                generalize hhs : (decide (x1 = 0) || YL.any fun l => decide (l.c = x1)) = hs at *
                have HHS := hide hhs
                clear hhs
                have BR9 := hide (BR8.out.trans (BI.out.mono BR8.out.size))
                have TR9 := hide (TR8.out.below BI.out)
                have X9 := hide ((BI.out.block _ (heap_lt X8.out)).trans X8.out)
                have XK9 := hide ((BR9.out.block _ (heap_lt XK7.out)).trans XK7.out)
                have XZ9 := hide ((BR9.out.block _ (heap_lt XZ7.out)).trans XZ7.out)
                clear BI BR8 TR8 X8 XK8 LY8
                generalize wr = w9 at *
                have k0 := cell_of_block XK9.out 0
                have z3 := cell_of_block XZ9.out 3
                have z4 := cell_of_block XZ9.out 4
                have d0 := cell_of_block X9.out 0
                have d1 := cell_of_block X9.out 1
                have d2 := cell_of_block X9.out 2
                have d3 := cell_of_block X9.out 3
                have d4 := cell_of_block X9.out 4
                have d5 := cell_of_block X9.out 5
                go_upto_region 24 with (fail)
                go_cut [22] from 104 to 116 (fun s22 W => s22 = .bool (decide (6 < kd) || (decide (ykind = kd) || decide (ykind = 1))) ∧ w9 = W)
                case first =>
                  by_cases h6 : 6 < kd
                  · go_wp2_with fail
                    go_meet
                    exact ⟨by rw [decide_eq_true h6]; rfl, rfl⟩
                  · have H6 := hide (decide_eq_false h6)
                    by_cases hkk : ykind = kd
                    · have hbq : (ykind == kd) = true := by rw [hkk]; exact beq_self_eq_true _
                      have HKK := hide hkk
                      clear hkk
                      go_wp2_with fail
                      go_meet
                      exact ⟨by rw [decide_eq_true HKK.out]; simp, rfl⟩
                    · have hbq : (ykind == kd) = false := beq_eq_false_iff_ne.mpr hkk
                      have HKK := hide (decide_eq_false hkk)
                      clear hkk
                      by_cases hk1 : ykind = 1
                      · have hk1b : (ykind == 1) = true := by rw [hk1]; exact beq_self_eq_true _
                        have HK1 := hide (decide_eq_true hk1)
                        clear hk1
                        go_wp2_with fail
                        go_meet
                        exact ⟨by rw [H6.out, HKK.out, HK1.out]; rfl, rfl⟩
                      · have hk1b : (ykind == 1) = false := beq_eq_false_iff_ne.mpr hk1
                        have HK1 := hide (decide_eq_false hk1)
                        clear hk1
                        go_wp2_with fail
                        go_meet
                        exact ⟨by rw [H6.out, HKK.out, HK1.out]; rfl, rfl⟩
                case rest =>
                  obtain ⟨rfl, rfl⟩ := hcut
                  have hkb := HKM.out ykind
                  generalize (decide (6 < kd) || (decide (ykind = kd) || decide (ykind = 1))) = kb at *
                  have HGV := hide (HWX.out ⟨ynum, ykind, yshift, yref, yamt, yleft, yvoid, YL⟩)
                  generalize G1 ⟨ynum, ykind, yshift, yref, yamt, yleft, yvoid, YL⟩ = gv at *
                  have HG2 := hide (wants_bools hkb HHS.out.symm HLF.out HGV.out)
                  clear hkb HGV
                  obtain ⟨aw, ab, cw, cb, rfl, rfl, how, hob, hds⟩ := TR9.out
                  have OW := hide how
                  have OB := hide hob
                  have DS := hide hds
                  clear how hob hds TR9
                  generalize he1 : wantM G1 (M.take (i + 1)) = l1n at *
                  generalize he2 : wantM (backsT x0) (M.take (i + 1)) = l2n at *
                  have HE1 := hide he1
                  have HE2 := hide he2
                  clear he1 he2
                  go_upto_region 25 with (fail)
                  go_cut [160] from 117 to 159 (fun s160 W => s160 = .bool gv ∧ w9 = W)
                  case first =>
                    cases kb with
                    | false =>
                      go_wp2_with fail
                      go_meet
                      exact ⟨by rw [show gv = false by rw [HG2.out]; simp []], rfl⟩
                    | true =>
                      cases hs with
                      | false =>
                        go_wp2_with fail
                        go_meet
                        exact ⟨by rw [show gv = false by rw [HG2.out]; simp []], rfl⟩
                      | true =>
                        by_cases hb0 : x0 = 0
                        · have hb0b : (x0 == 0) = true := by rw [hb0]; exact beq_self_eq_true _
                          have HB0 := hide hb0
                          clear hb0
                          by_cases hd0 : x2 ≤ yamt
                          · have HD0 := hide (show decide (x2 ≤ yamt) = true from decide_eq_true (by omega))
                            by_cases hd1 : yamt ≤ x3
                            · have HD1 := hide (show decide (yamt ≤ x3) = true from decide_eq_true (by omega))
                              cases o with
                              | false =>
                                go_wp2_with fail
                                go_meet
                                exact ⟨by rw [show gv = true by rw [HG2.out]; simp [HB0.out, HD0.out, HD1.out]], rfl⟩
                              | true =>
                                by_cases hk1 : ykind = 1
                                · have hk1b : (ykind == 1) = true := by rw [hk1]; exact beq_self_eq_true _
                                  have HK1 := hide hk1
                                  clear hk1
                                  by_cases hl0 : 0 < yleft
                                  · have HL0 := hide (show decide (0 < yleft) = true from decide_eq_true (by omega))
                                    go_wp2_with fail
                                    go_meet
                                    exact ⟨by rw [show gv = true by rw [HG2.out]; simp [HB0.out, HD0.out, HD1.out, HK1.out, HL0.out]], rfl⟩
                                  · have HL0 := hide (show decide (0 < yleft) = false from decide_eq_false (by omega))
                                    go_wp2_with fail
                                    go_meet
                                    exact ⟨by rw [show gv = false by rw [HG2.out]; simp [HB0.out, HD0.out, HD1.out, HK1.out, HL0.out]], rfl⟩
                                · have hk1b : (ykind == 1) = false := beq_eq_false_iff_ne.mpr hk1
                                  have HK1 := hide hk1
                                  clear hk1
                                  go_wp2_with fail
                                  go_meet
                                  exact ⟨by rw [show gv = false by rw [HG2.out]; simp [HB0.out, HD0.out, HD1.out, HK1.out]], rfl⟩
                            · have HD1 := hide (show decide (yamt ≤ x3) = false from decide_eq_false (by omega))
                              go_wp2_with fail
                              go_meet
                              exact ⟨by rw [show gv = false by rw [HG2.out]; simp [HB0.out, HD0.out, HD1.out]], rfl⟩
                          · have HD0 := hide (show decide (x2 ≤ yamt) = false from decide_eq_false (by omega))
                            go_wp2_with fail
                            go_meet
                            exact ⟨by rw [show gv = false by rw [HG2.out]; simp [HB0.out, HD0.out]], rfl⟩
                        · have hb0b : (x0 == 0) = false := beq_eq_false_iff_ne.mpr hb0
                          have HB0 := hide hb0
                          clear hb0
                          by_cases hb1 : yshift = x0
                          · have hb1b : (yshift == x0) = true := by rw [hb1]; exact beq_self_eq_true _
                            have HB1 := hide hb1
                            clear hb1
                            by_cases hd0 : x2 ≤ yamt
                            · have HD0 := hide (show decide (x2 ≤ yamt) = true from decide_eq_true (by omega))
                              by_cases hd1 : yamt ≤ x3
                              · have HD1 := hide (show decide (yamt ≤ x3) = true from decide_eq_true (by omega))
                                cases o with
                                | false =>
                                  go_wp2_with fail
                                  go_meet
                                  exact ⟨by rw [show gv = true by rw [HG2.out]; simp [HB1.out, HD0.out, HD1.out]], rfl⟩
                                | true =>
                                  by_cases hk1 : ykind = 1
                                  · have hk1b : (ykind == 1) = true := by rw [hk1]; exact beq_self_eq_true _
                                    have HK1 := hide hk1
                                    clear hk1
                                    by_cases hl0 : 0 < yleft
                                    · have HL0 := hide (show decide (0 < yleft) = true from decide_eq_true (by omega))
                                      go_wp2_with fail
                                      go_meet
                                      exact ⟨by rw [show gv = true by rw [HG2.out]; simp [HB1.out, HD0.out, HD1.out, HK1.out, HL0.out]], rfl⟩
                                    · have HL0 := hide (show decide (0 < yleft) = false from decide_eq_false (by omega))
                                      go_wp2_with fail
                                      go_meet
                                      exact ⟨by rw [show gv = false by rw [HG2.out]; simp [HB1.out, HD0.out, HD1.out, HK1.out, HL0.out]], rfl⟩
                                  · have hk1b : (ykind == 1) = false := beq_eq_false_iff_ne.mpr hk1
                                    have HK1 := hide hk1
                                    clear hk1
                                    go_wp2_with fail
                                    go_meet
                                    exact ⟨by rw [show gv = false by rw [HG2.out]; simp [HB1.out, HD0.out, HD1.out, HK1.out]], rfl⟩
                              · have HD1 := hide (show decide (yamt ≤ x3) = false from decide_eq_false (by omega))
                                go_wp2_with fail
                                go_meet
                                exact ⟨by rw [show gv = false by rw [HG2.out]; simp [HB1.out, HD0.out, HD1.out]], rfl⟩
                            · have HD0 := hide (show decide (x2 ≤ yamt) = false from decide_eq_false (by omega))
                              go_wp2_with fail
                              go_meet
                              exact ⟨by rw [show gv = false by rw [HG2.out]; simp [HB1.out, HD0.out]], rfl⟩
                          · have hb1b : (yshift == x0) = false := beq_eq_false_iff_ne.mpr hb1
                            have HB1 := hide hb1
                            clear hb1
                            go_wp2_with fail
                            go_meet
                            exact ⟨by rw [show gv = false by rw [HG2.out]; simp [HB0.out, HB1.out]], rfl⟩
                  case rest =>
                  obtain ⟨rfl, rfl⟩ := hcut
                  clear HG2 HHS
                  go_upto_if 160 with (fail)
                  go_cut [15] from 161 to 165 (fun s15 W => ∃ (aw' : Option Addr) (cw' : Nat), s15 = .slice aw' l1n.length cw' ∧ W.ownsRow w7.heap.size 3 1 (.slice aw' l1n.length cw') l1n.length (l1n.map (Value.int .i64)) ∧ W.ownsRow w7.heap.size 3 1 (.slice ab l2.length cb) l2.length (l2.map (Value.int .i64)) ∧ (∀ g, (Value.slice aw' l1n.length cw').ownBlock = some g → (Value.slice ab l2.length cb).ownBlock ≠ some g) ∧ Below w7.heap.size w7 W ∧ W.heap[q8]? = some (.cells #[.int .i64 ynum, .int .u8 ykind, .int .i64 yshift, .int .i64 yref, .int .i64 yamt, .int .i64 yleft, .bool yvoid, .slice ya YL.length yc] 35 (0, 0)))
                  case first =>
                    cases gv with
                    | false =>
                      rw [if_neg (by decide)] at HN1
                      go_wp2_with fail
                      go_meet
                      rw [HN1.out]
                      exact ⟨aw, cw, rfl, OW.out, OB.out, DS.out, BR9.out, X9.out⟩
                    | true =>
                      rw [if_pos rfl] at HN1
                      have hA := (Below.refl w9.heap.size w9).alloc (Nat.le_refl _) (.cells #[.int .i64 ynum] 3)
                      have OA := hide (owns_below OW.out hA)
                      have OO := hide (owns_below OB.out hA)
                      have BA := hide (BR9.out.alloc BR9.out.size (.cells #[.int .i64 ynum] 3))
                      have XA9 := hide ((hA.block _ (heap_lt X9.out)).trans X9.out)
                      have HW5 := hide (show w7.heap.size ≤ (w9.alloc (.cells #[.int .i64 ynum] 3)).heap.size from BA.out.size)
                      have HNEW := hide (cells_new (heap_new w9 (.cells ([.int .i64 ynum] : List Value).toArray 3)))
                      have hll := HL1.out
                      clear hA
                      go_wp2_with (at_builtin; refine wpList_append_own2 _ rfl _ _ 45 rfl w7.heap.size 3 i0' (.int .i64 0) 1 8 Try.underlying45 HI.out HZ0.out HZ1.out HZ2.out rfl (by decide) (.slice aw l1.length cw) l1.length (l1.map (Value.int .i64)) rfl OA.out ⟨w9.heap.size, 0, none⟩ 1 1 (by decide) [.int .i64 ynum] rfl rfl HNEW.out (by simp [Value.oneCell']) (by unfold maxLen; omega) (by omega) HW5.out ?_; intro g3 c3' w' ho hgr hnil; have HO6 := hide ho; have HGR := hide hgr; have HNI := hide hnil; clear ho hgr hnil)
                      go_meet
                      have hkk := KeepsT.grown (Ts := [3]) OA.out (by decide) HGR.out
                      rw [HN1.out]
                      exact ⟨some ⟨g3, 0, none⟩, c3', by simp, by simpa using HO6.out, owns_apart OO.out HGR.out (fun g hg2 hg3 => DS.out g hg3 hg2), fun g h1 h2 => apart_new (n1 := (l1 ++ [ynum]).length) (c1 := c3') OO.out DS.out HNI.out g h1 h2, BA.out.grown HGR.out BA.out.size (fun j h => (OA.out.lt j h).1), hkk.cells XA9.out (by decide)⟩
                  case rest =>
                    obtain ⟨aw1, cw1, rfl, how, hob, hds, hbr, hx⟩ := hcut
                    have OW1 := hide how
                    have OB1 := hide hob
                    have DS1 := hide hds
                    have BR1 := hide hbr
                    have X1 := hide hx
                    clear how hob hds hbr hx OW OB DS BR9 X9 XK9 XZ9 k0 z3 z4 d0 d1 d2 d3 d4 d5 HN1
                    generalize wc = wd at *
                    have XK1 := hide ((BR1.out.block _ (heap_lt XK7.out)).trans XK7.out)
                    have k0 := cell_of_block XK1.out 0
                    have d0 := cell_of_block X1.out 0
                    have d1 := cell_of_block X1.out 1
                    have d3 := cell_of_block X1.out 3
                    have hbt : backsT x0 ⟨ynum, ykind, yshift, yref, yamt, yleft, yvoid, YL⟩ = (backT ykind && decide (yref = x0)) := rfl
                    rw [hbt] at HN2
                    clear hbt
                    go_upto_region 27 with (fail)
                    go_cut [180] from 166 to 179 (fun s180 W => s180 = .bool (backT ykind && decide (yref = x0)) ∧ wd = W)
                    case first =>
                      by_cases h2 : ykind = 2
                      · have h2b : (ykind == 2) = true := by rw [h2]; exact beq_self_eq_true _
                        have H2 := hide h2
                        clear h2
                        by_cases hr0 : yref = x0
                        · have hr0b : (yref == x0) = true := by rw [hr0]; exact beq_self_eq_true _
                          have HR0 := hide hr0
                          clear hr0
                          go_wp2_with fail
                          go_meet
                          exact ⟨by rw [show (backT ykind && decide (yref = x0)) = true by unfold backT; simp [H2.out, HR0.out]], rfl⟩
                        · have hr0b : (yref == x0) = false := beq_eq_false_iff_ne.mpr hr0
                          have HR0 := hide hr0
                          clear hr0
                          go_wp2_with fail
                          go_meet
                          exact ⟨by rw [show (backT ykind && decide (yref = x0)) = false by unfold backT; simp [H2.out, HR0.out]], rfl⟩
                      · have h2b : (ykind == 2) = false := beq_eq_false_iff_ne.mpr h2
                        have H2 := hide h2
                        clear h2
                        by_cases h3 : ykind = 3
                        · have h3b : (ykind == 3) = true := by rw [h3]; exact beq_self_eq_true _
                          have H3 := hide h3
                          clear h3
                          by_cases hr0 : yref = x0
                          · have hr0b : (yref == x0) = true := by rw [hr0]; exact beq_self_eq_true _
                            have HR0 := hide hr0
                            clear hr0
                            go_wp2_with fail
                            go_meet
                            exact ⟨by rw [show (backT ykind && decide (yref = x0)) = true by unfold backT; simp [H3.out, HR0.out]], rfl⟩
                          · have hr0b : (yref == x0) = false := beq_eq_false_iff_ne.mpr hr0
                            have HR0 := hide hr0
                            clear hr0
                            go_wp2_with fail
                            go_meet
                            exact ⟨by rw [show (backT ykind && decide (yref = x0)) = false by unfold backT; simp [H3.out, HR0.out]], rfl⟩
                        · have h3b : (ykind == 3) = false := beq_eq_false_iff_ne.mpr h3
                          have H3 := hide h3
                          clear h3
                          go_wp2_with fail
                          go_meet
                          exact ⟨by rw [show (backT ykind && decide (yref = x0)) = false by unfold backT; simp [H2.out, H3.out]], rfl⟩
                    case rest =>
                      obtain ⟨rfl, rfl⟩ := hcut
                      generalize (backT ykind && decide (yref = x0)) = gb at *
                      cases gb with
                      | false =>
                        rw [if_neg (by decide)] at HN2
                        go_wp2_with fail
                        go_roundw
                        case rel => exact ⟨i + 1, by omega, by go_num, by rw [HE1.out, HE2.out, HN2.out]; exact ⟨aw1, ab, cw1, cb, rfl, rfl, OW1.out, OB1.out, DS1.out⟩, BR1.out⟩
                        case measure => simp [intOf]; omega
                      | true =>
                        rw [if_pos rfl] at HN2
                        have hA := (Below.refl wd.heap.size wd).alloc (Nat.le_refl _) (.cells #[.int .i64 ynum] 3)
                        have OA := hide (owns_below OB1.out hA)
                        have OO := hide (owns_below OW1.out hA)
                        have BA := hide (BR1.out.alloc BR1.out.size (.cells #[.int .i64 ynum] 3))
                        have XA9 := hide ((hA.block _ (heap_lt X1.out)).trans X1.out)
                        have HW5 := hide (show w7.heap.size ≤ (wd.alloc (.cells #[.int .i64 ynum] 3)).heap.size from BA.out.size)
                        have HNEW := hide (cells_new (heap_new wd (.cells ([.int .i64 ynum] : List Value).toArray 3)))
                        have hll := HL2.out
                        clear hA
                        go_wp2_with (at_builtin; refine wpList_append_own2 _ rfl _ _ 45 rfl w7.heap.size 3 i0' (.int .i64 0) 1 8 Try.underlying45 HI.out HZ0.out HZ1.out HZ2.out rfl (by decide) (.slice ab l2.length cb) l2.length (l2.map (Value.int .i64)) rfl OA.out ⟨wd.heap.size, 0, none⟩ 1 1 (by decide) [.int .i64 ynum] rfl rfl HNEW.out (by simp [Value.oneCell']) (by unfold maxLen; omega) (by omega) HW5.out ?_; intro g3 c3' w' ho hgr hnil; have HO6 := hide ho; have HGR := hide hgr; have HNI := hide hnil; clear ho hgr hnil)
                        go_roundw
                        case rel =>
                          refine ⟨i + 1, by omega, by go_num, ?_, BA.out.grown HGR.out BA.out.size (fun j h => (OA.out.lt j h).1)⟩
                          rw [HE1.out, HE2.out, HN2.out]
                          refine ⟨aw1, some ⟨g3, 0, none⟩, cw1, c3', rfl, by simp, owns_apart OO.out HGR.out (fun g hg2 hg3 => DS1.out g hg2 hg3), by simpa using HO6.out, ?_⟩
                          exact fun g h1 h2 => apart_new (n1 := (l2 ++ [ynum]).length) (c1 := c3') OO.out (fun g h1 h2 => DS1.out g h2 h1) HNI.out g h2 h1
                        case measure => simp [intOf]; omega
          · have hik : i = ln := by omega
            rw [hik, List.take_of_length_le (by rw [HML.out]; exact Nat.le_refl _)] at TR
            obtain ⟨aw, ab, cw, cb, rfl, rfl, how, hob, -⟩ := TR.out
            have IW := hide (IntsIn.of_owns how)
            have IB := hide (IntsIn.of_owns hob)
            have RG8 := hide (RG7.out.below BR.out)
            have XZ8 := hide ((BR.out.block _ (heap_lt XZ7.out)).trans XZ7.out)
            have KI8 := hide (KI7.out.below BR.out)
            have HLW := hide (show (wantM G1 M).length ≤ 600 by have h1 := wantM_len G1 M; have h2 := HML.out; omega)
            have HLB := hide (show (wantM (backsT x0) M).length ≤ 600 by have h1 := wantM_len (backsT x0) M; have h2 := HML.out; omega)
            have HFJ := hide (HFI.out wr RG8.out KI8.out)
            have HBK := hide (fun W (hR : RegAt W q p 20 next v T) => slback_any x0 q p 20 next v T W hR)
            rw [HMT.out] at HBK
            generalize wantM G1 M = l1 at *
            generalize wantM (backsT x0) M = l2 at *
            clear how hob TR HFI
            have e0 := cell_of_block XZ8.out 0
            have e1 := cell_of_block XZ8.out 1
            have e2 := cell_of_block XZ8.out 2
            have e3 := cell_of_block XZ8.out 3
            have e4 := cell_of_block XZ8.out 4
            have e5 := cell_of_block XZ8.out 5
            go_wp2_with fail
            clear e0 e1 e2 e3 e4 e5
            refine HFJ.out.mono ?_
            rintro e w10 ⟨a10, c10, rfl, hin, hb⟩
            have IF := hide hin
            have IW2 := hide (IW.out.below hb)
            have IB2 := hide (IB.out.below hb)
            have RG2 := hide (RG8.out.below hb)
            have B10 := hide (BR.out.trans (hb.mono BR.out.size))
            clear hin hb IW IB RG8 BR XZ8 KI8 HFJ
            go_wp2_with fail
            refine (list25 l1 HLW.out a10 aw c10 cw w10 IF.out IW2.out).mono ?_
            rintro e w11 ⟨rfl, m11, rfl⟩
            have RG3 := hide (RG2.out.drewN m11)
            have IB3 := hide (show IntsIn (w10.drewN m11) ab l2 from IB2.out)
            have B11 := hide (below_dn B10.out m11)
            clear RG2 IB2 B10 IF IW2
            generalize w10.drewN m11 = w11 at *
            have XK3 := hide ((B11.out.block _ (heap_lt XK7.out)).trans XK7.out)
            have k0 := cell_of_block XK3.out 0
            go_wp2_with fail
            clear k0
            refine (HBK.out w11 RG3.out).mono ?_
            rintro e w12 ⟨a12, c12, rfl, hin, hb⟩
            have IF := hide hin
            have IB4 := hide (IB3.out.below hb)
            have B12 := hide (B11.out.trans (hb.mono B11.out.size))
            clear hin hb RG3 IB3 B11 XK3 HBK
            go_wp2_with fail
            refine (list25 l2 HLB.out a12 ab c12 cb w12 IF.out IB4.out).mono ?_
            rintro e w13 ⟨rfl, m13, rfl⟩
            have B13 := hide (below_dn B12.out m13)
            clear IF IB4 B12
            generalize w12.drewN m13 = w13 at *
            have XZ8 := hide ((B13.out.block _ (heap_lt XZ7.out)).trans XZ7.out)
            have e0 := cell_of_block XZ8.out 0
            have e1 := cell_of_block XZ8.out 1
            have e2 := cell_of_block XZ8.out 2
            have e3 := cell_of_block XZ8.out 3
            have e4 := cell_of_block XZ8.out 4
            have e5 := cell_of_block XZ8.out 5
            go_wp2_with fail
            clear e0 e1 e2 e3 e4 e5
            refine (HFN.out w13).mono ?_
            rintro e w14 ⟨rfl, hb⟩
            have B14 := hide (B13.out.trans (hb.mono B13.out.size))
            clear hb B13 XZ8
            go_wp2_with fail
            refine (slback_nil 1 w14).mono ?_
            rintro e w15 ⟨rfl, hb⟩
            have B15 := hide (B14.out.trans (hb.mono B14.out.size))
            clear hb B14
            go_wp2_with fail
            go_ret
            exact ⟨rfl, by rw [HQ.out]; exact BK.out.trans ((BW7.out.trans (B15.out.mono (by have := heap_lt RG7.out.head; have := RG7.out.low; omega))).mono HSK.out)⟩

set_option maxRecDepth 100000 in
set_option maxHeartbeats 2000000 in
theorem saleFinds_lifted (os : Os) (started : os.Started) (H : Type) (enc : TypeId × Value → H) :
    ReturnsInHanded {} Try.checked os 5 .any (Rows.saleFindsSpec.pre6 enc Try.prog Try.f5 Rows.saleFindsRow.domain false) (Rows.saleFindsSpec.post enc Try.prog Try.f5 false true false false) := by
  refine returnsInHanded_of_change (C := Try.checked) own started (by kernel_rfl) Try.func5
    (ChangeSpec.witness6 (enc := enc) (C := Try.checked) false ⟨#[], #[.slice none 0 0, .agg #[.int .i64 0, .int .i64 0, .int .i64 0, .int .i64 0, .int .i64 0], .bool false], []⟩ 8 (by kernel_rfl) (by kernel_rfl) (by kernel_rfl) (by kernel_rfl)) ?_
  intro W base args ds gs before hval0 hW _ _
  have hval : ∀ (j : Nat) t v, Try.f5.params[j]? = some t → args[j]? = some v → Value.okWide Try.prog W .any base t v := hval0
  have hW' := hW
  obtain ⟨p, q, hA0, hV, rfl, hfz, hnd⟩ := hW
  have hA : DataW.TrodAll enc Try.prog W 0 (fun _ => true) true Try.f5.params.toList args.toList ds p := hA0
  rw [Try.params5] at hA hval
  obtain ⟨v0, vs0, d0, ds0, p0, q0, hargs, rfl, rfl, h0, r0⟩ := trodAll_cons hA
  obtain ⟨v1, vs1, d1, ds1, p1, q1, rfl, rfl, rfl, h1, r1⟩ := trodAll_cons r0
  obtain ⟨v2, vs2, d2, ds2, p2, q2, rfl, rfl, rfl, h2, r2⟩ := trodAll_cons r1
  obtain ⟨rfl, rfl, rfl⟩ := trodAll_nil r2
  obtain rfl : args = #[v0, v1, v2] := by cases args; simp_all
  obtain ⟨rfl, rfl⟩ := trodVars_none hV
  have z0 := open_actTs (hval 0 22 v0 rfl rfl) h0
  have z1 := open_ask5 (hval 1 75 v1 rfl rfl) h1
  obtain ⟨o, rfl, rfl, rfl⟩ := open_bool Try.underlying4 (hval 2 4 v2 rfl rfl) h2
  clear hA0 hval0
  refine (saleFinds_walk v0 v1 o W z0 z1).mono fun e W' ⟨he, hb⟩ => ?_
  subst he
  exact ⟨_, rfl, post_law laidOut (of_decide_eq_true (by kernel_rfl)) rfl rfl Try.underlying4 hW' ⟨rfl, rfl, rfl⟩ hb⟩

/-- THE STATEMENT -/
theorem saleFinds_holds : Rows.SaleFindsSaid :=
  OpenClaim.holds_of_wide 5 Try.f5 rfl rfl rfl rfl rfl rfl rfl ⟨rfl, rfl, rfl, rfl, rfl⟩ rfl rfl rfl rfl rfl (by kernel_rfl) Try.func5 (by kernel_rfl)
    (of_decide_eq_true (by kernel_rfl)) (by unfold Func.isWrapper; first | (rw [if_pos (by decide +kernel)]; kernel_rfl) | (rw [if_neg (by decide +kernel)]; exact ⟨rfl, rfl⟩))
    (fun os started H enc _ => saleFinds_lifted os started H enc)


end Go.Proofs.Ytbnbfnlfgmlcgaa
