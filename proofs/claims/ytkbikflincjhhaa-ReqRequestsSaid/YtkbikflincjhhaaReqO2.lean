/-
  Layer 28: of.
-/
import Derived.Test.YtkbikflincjhhaaReqO

namespace Go.Proofs.Ytkbikflincjhhaa
set_option linter.unusedSimpArgs false
set_option linter.unusedVariables false
open Go.RowKit Go.WideShapes Go.ChangeShapes Go.ChangeAt Go.Deep
theorem wp_rowStore {P : Program} {o : Oper} {a : Act} {w : World} {K : Act → World → Prop} {Q : Exit → Act → World → Prop} (ty : TypeId) (x y : Operand) (ho : o.op = .store ty x y)
    (g : Nat) (hx : a.eval x = .pointer (some ⟨g, 0, none⟩)) (cs : Array Value) (hy : a.eval y = .agg cs) (old : Array Value) (hg : w.heap[g]? = some (.cells old ty (0, 0)))
    (hi : (P.info? ty).map (·.size) = some cs.size) (hs : old.size = cs.size) (h1 : cs.all (·.oneCell') = true)
    (h : K (a.put o.dst undef) (w.setRow g cs)) : o.wp P a w K Q := by
  unfold Oper.wp execOp
  simp only [ho, hx, hy, Instr.storeAt, Instr.sureAddr, Sem.run_bind, Sem.run_pure, Result.andThen_ok, run_storeVar_row w g ty ty old cs hg hi hs h1]
  exact h
theorem res_cells {P : Program} {fn : Func} {p u : Tmp} {ty ty' : TypeId} (h : fn.results = #[.cell p ty, .cell u ty']) (tmps : Array Value) (w : World) (g g' : Nat) (t2 t2' : TypeId) (cs cs' : Array Value) (fr fr' : Nat × Nat) (d d' : TypeDesc)
    (hp : tmps.getD p undef = .pointer (some ⟨g, 0, none⟩)) (hu' : tmps.getD u undef = .pointer (some ⟨g', 0, none⟩)) (hg : w.heap[g]? = some (.cells cs t2 fr)) (hg' : w.heap[g']? = some (.cells cs' t2' fr')) (hu : P.underlying ty = some d) (hv : P.underlying ty' = some d') (hd : (match d with | .struct _ | .array _ _ => true | _ => false) = true) (hd' : (match d' with | .struct _ | .array _ _ => true | _ => false) = true) (hi : (P.info? ty).map (·.size) = some cs.size) (hi' : (P.info? ty').map (·.size) = some cs'.size) :
    (results fn tmps).run P w = .ok (.tuple #[.agg cs, .agg cs']) w := by
  have hp' : tmps[p]?.getD undef = .pointer (some ⟨g, 0, none⟩) := by simpa using hp
  have hq' : tmps[u]?.getD undef = .pointer (some ⟨g', 0, none⟩) := by simpa using hu'
  simp [results, h, hp', hq', asAddr, run_loadVar_row w g t2 ty cs fr d hg hu hd hi, run_loadVar_row w g' t2' ty' cs' fr' d' hg' hv hd' hi']
theorem owns_kept_o {w w' : World} {B e e' n n' m m' B' : Nat} {v v' : Value} {xs xs' : List Value} (h : w.ownsRow B e m v n xs) (h' : w.ownsRow B' e' m' v' n' xs') (he : e ≠ e') (hg : w.grownBy w' v'.ownBlock) : w'.ownsRow B e m v n xs := by
  refine ⟨h.1, ?_⟩
  rcases h.2 with h3 | ⟨g, cap', cur, hv, hb, hh, h4⟩
  · exact .inl h3
  · refine .inr ⟨g, cap', cur, hv, hb, ?_, h4⟩
    rw [hg.block g (heap_lt hh) ?_]
    · exact hh
    · intro hq
      obtain ⟨c, fz, hc⟩ := Go.Lib.ownsRow_kind h' g hq.symm
      rw [hh] at hc
      simp only [Option.some.injEq, Obj.cells.injEq] at hc
      exact he hc.2.1
/-- a row stays when a block of another type turns -/
theorem owns_turn {w w' : World} {B e m n p : Nat} {v : Value} {xs : List Value} {c : Array Value} {t : TypeId} {fz : Nat × Nat} (h : w.ownsRow B e m v n xs) (hp : w.heap[p]? = some (.cells c t fz)) (ht : t ≠ e) (hk : ∀ k, k ≠ p → w'.heap[k]? = w.heap[k]?) : w'.ownsRow B e m v n xs := by
  refine ⟨h.1, ?_⟩
  rcases h.2 with h3 | ⟨g, cap', cur, hv, hb, hh, h4⟩
  · exact .inl h3
  · refine .inr ⟨g, cap', cur, hv, hb, ?_, h4⟩
    rw [hk g (fun e => by
      subst e
      rw [hp] at hh
      simp only [Option.some.injEq, Obj.cells.injEq] at hh
      exact ht hh.2.1)]
    exact hh
theorem owns_putCell {w : World} {B e m n p : Nat} {v : Value} {xs : List Value} {c : Array Value} {t : TypeId} {fz : Nat × Nat} (h : w.ownsRow B e m v n xs) (hp : w.heap[p]? = some (.cells c t fz)) (ht : t ≠ e) (j : Nat) (x : Value) : (w.setCell ⟨p, j, none⟩ x).ownsRow B e m v n xs :=
  owns_turn h hp ht fun k hk => block_setCell_other (Ne.symm hk) j x
theorem owns_putRow {w : World} {B e m n p : Nat} {v : Value} {xs : List Value} {c : Array Value} {t : TypeId} {fz : Nat × Nat} (h : w.ownsRow B e m v n xs) (hp : w.heap[p]? = some (.cells c t fz)) (ht : t ≠ e) (cs : Array Value) : (w.setRow p cs).ownsRow B e m v n xs :=
  owns_turn h hp ht fun k hk => setRow_apart (Ne.symm hk)
theorem blocks_apart {w : World} {p q : Nat} {c c' : Array Value} {t t' : TypeId} {fz fz' : Nat × Nat} (h : w.heap[p]? = some (.cells c t fz)) (h' : w.heap[q]? = some (.cells c' t' fz')) (ht : t ≠ t') : p ≠ q := fun e => by
  subst e
  rw [h] at h'
  simp only [Option.some.injEq, Obj.cells.injEq] at h'
  exact ht h'.2.1
theorem grown_keep {w w' : World} {B e m n k : Nat} {v : Value} {xs : List Value} {c : Array Value} {t : TypeId} {fz : Nat × Nat} (h : w.ownsRow B e m v n xs) (hg : w.grownBy w' v.ownBlock) (hk : w.heap[k]? = some (.cells c t fz)) (ht : t ≠ e) : w'.heap[k]? = some (.cells c t fz) := by
  rw [hg.block k (heap_lt hk) ?_]
  · exact hk
  · intro hq
    obtain ⟨c', fz', hc⟩ := Go.Lib.ownsRow_kind h k hq.symm
    rw [hk] at hc
    simp only [Option.some.injEq, Obj.cells.injEq] at hc
    exact ht hc.2.1
/-- the frame of of: the results' boxes, the two requests' -/
structure OfF (w W : World) (ra rb ab bb : Nat) (CA CB : Array Value) : Prop where
  resA : W.heap[ra]? = some (.cells #[.int .u8 0, .int .u8 0, .int .u64 0, .int .i64 0, .int .i64 0, .int .i64 0, .int .u8 0, .string ⟨#[]⟩, .slice none 0 0, .int .i64 0] 39 (0, 0))
  resB : W.heap[rb]? = some (.cells #[.int .u8 0, .int .i64 0, .int .u8 0, .string ⟨#[]⟩, .int .u64 0, .int .i64 0, .int .i64 0, .int .i64 0, .slice none 0 0] 42 (0, 0))
  a : W.heap[ab]? = some (.cells CA 39 (0, 0))
  b : W.heap[bb]? = some (.cells CB 42 (0, 0))
  below : Below w.heap.size w W
  new : (w.heap.size ≤ ra ∧ w.heap.size ≤ rb ∧ w.heap.size ≤ ab ∧ w.heap.size ≤ bb) ∧ ra ≠ ab ∧ rb ≠ bb
theorem OfF.low {w W W' : World} {ra rb ab bb : Nat} {CA CB : Array Value} (h : OfF w W ra rb ab bb CA CB) (hb : Below W.heap.size W W') : OfF w W' ra rb ab bb CA CB :=
  ⟨(hb.block _ (heap_lt h.resA)).trans h.resA, (hb.block _ (heap_lt h.resB)).trans h.resB, (hb.block _ (heap_lt h.a)).trans h.a, (hb.block _ (heap_lt h.b)).trans h.b, h.below.trans (hb.mono h.below.size), h.new⟩
theorem OfF.drew {w W : World} {ra rb ab bb : Nat} {CA CB : Array Value} (h : OfF w W ra rb ab bb CA CB) : OfF w W.drew ra rb ab bb CA CB := ⟨h.resA, h.resB, h.a, h.b, h.below.drew, h.new⟩
theorem OfF.grown {w W W' : World} {ra rb ab bb e m n : Nat} {v : Value} {xs : List Value} {CA CB : Array Value} (h : OfF w W ra rb ab bb CA CB) (ho : W.ownsRow w.heap.size e m v n xs) (hg : W.grownBy W' v.ownBlock) (ht : 39 ≠ e) (hu : 42 ≠ e) : OfF w W' ra rb ab bb CA CB :=
  ⟨grown_keep ho hg h.resA ht, grown_keep ho hg h.resB hu, grown_keep ho hg h.a ht, grown_keep ho hg h.b hu, h.below.grown hg h.below.size (fun jj hj => (ho.lt jj hj).1), h.new⟩
theorem OfF.setA {w W : World} {ra rb ab bb : Nat} {CA CB : Array Value} (h : OfF w W ra rb ab bb CA CB) (j : Nat) (v : Value) : OfF w (W.setCell ⟨ab, j, none⟩ v) ra rb ab bb (CA.setIfInBounds j v) CB :=
  ⟨(block_setCell_other (Ne.symm h.new.2.1) j v).trans h.resA, (block_setCell_other (blocks_apart h.a h.resB (by decide)) j v).trans h.resB, block_setCell h.a j v, (block_setCell_other (blocks_apart h.a h.b (by decide)) j v).trans h.b, h.below.setCell (p := ⟨ab, j, none⟩) h.new.1.2.2.1 v, h.new⟩
theorem OfF.setB {w W : World} {ra rb ab bb : Nat} {CA CB : Array Value} (h : OfF w W ra rb ab bb CA CB) (j : Nat) (v : Value) : OfF w (W.setCell ⟨bb, j, none⟩ v) ra rb ab bb CA (CB.setIfInBounds j v) :=
  ⟨(block_setCell_other (blocks_apart h.b h.resA (by decide)) j v).trans h.resA, (block_setCell_other (Ne.symm h.new.2.2) j v).trans h.resB, (block_setCell_other (blocks_apart h.b h.a (by decide)) j v).trans h.a, block_setCell h.b j v, h.below.setCell (p := ⟨bb, j, none⟩) h.new.1.2.2.2 v, h.new⟩
/-- the first result is stored -/
structure OfG (w W : World) (ra rb ab bb : Nat) (CA CB : Array Value) : Prop where
  resA : W.heap[ra]? = some (.cells CA 39 (0, 0))
  resB : W.heap[rb]? = some (.cells #[.int .u8 0, .int .i64 0, .int .u8 0, .string ⟨#[]⟩, .int .u64 0, .int .i64 0, .int .i64 0, .int .i64 0, .slice none 0 0] 42 (0, 0))
  a : W.heap[ab]? = some (.cells CA 39 (0, 0))
  b : W.heap[bb]? = some (.cells CB 42 (0, 0))
  below : Below w.heap.size w W
  new : (w.heap.size ≤ ra ∧ w.heap.size ≤ rb ∧ w.heap.size ≤ ab ∧ w.heap.size ≤ bb) ∧ ra ≠ ab ∧ rb ≠ bb
theorem OfF.putA {w W : World} {ra rb ab bb : Nat} {CA CB : Array Value} (h : OfF w W ra rb ab bb CA CB) : OfG w (W.setRow ra CA) ra rb ab bb CA CB :=
  ⟨setRow_self _ _ _ _ _ _ h.resA, (setRow_apart (blocks_apart h.resA h.resB (by decide))).trans h.resB, (setRow_apart h.new.2.1).trans h.a, (setRow_apart (blocks_apart h.resA h.b (by decide))).trans h.b, setRow_low h.below h.new.1.1 _, h.new⟩
theorem OfG.putB {w W : World} {ra rb ab bb : Nat} {CA CB : Array Value} (h : OfG w W ra rb ab bb CA CB) : (W.setRow rb CB).heap[ab]? = some (.cells CA 39 (0, 0)) ∧ (W.setRow rb CB).heap[bb]? = some (.cells CB 42 (0, 0)) ∧ (W.setRow rb CB).heap[ra]? = some (.cells CA 39 (0, 0)) ∧ (W.setRow rb CB).heap[rb]? = some (.cells CB 42 (0, 0)) ∧ Below w.heap.size w (W.setRow rb CB) :=
  ⟨(setRow_apart (blocks_apart h.resB h.a (by decide))).trans h.a, (setRow_apart h.new.2.2).trans h.b, (setRow_apart (blocks_apart h.resB h.resA (by decide))).trans h.resA, setRow_self _ _ _ _ _ _ h.resB, setRow_low h.below h.new.1.2.1 _⟩
set_option maxRecDepth 100000 in
set_option maxHeartbeats 2000000 in
theorem of_any (y : RqM) (hy : InOk y) (L : List LnM) (a : Option Addr) (cap n : Nat) (hn : min L.length 10 = n) (hcap : L.length ≤ cap) (w : World) (hin : LnIn w a L) :
    Calls Try.prog 7 #[.agg #[.int .u8 y.k, .int .i64 y.code, .int .u8 y.ak, .string y.name, .int .u64 y.key, .int .i64 y.ref, .int .i64 y.amt, .int .i64 y.n, .slice a L.length cap]] w (OfIs y L n w) := by
  obtain ⟨i0, hi, hz0, hz1, hz2⟩ := info_parts (show (Try.prog.info? 81).map (fun i => (i.zero, i.size, i.bytes)) = some (some (.agg #[.int .i64 0, .int .i64 0]), 2, 16) by kernel_rfl)
  have HI := hide hi
  have HZ0 := hide hz0
  have HZ1 := hide hz1
  have HZ2 := hide hz2
  obtain ⟨i1, hi1, hy0, hy1, hy2⟩ := info_parts (show (Try.prog.info? 82).map (fun i => (i.zero, i.size, i.bytes)) = some (some (.agg #[.int .i64 0, .int .i64 0]), 2, 16) by kernel_rfl)
  have HI1 := hide hi1
  have HY0 := hide hy0
  have HY1 := hide hy1
  have HY2 := hide hy2
  have HIN := hide hin
  have hmF : (if (10 : Int) < (L.length : Int) then (10 : Int) else (L.length : Int)) = (n : Int) := by split <;> omega
  have hmI : min (L.length : Int) 10 = (n : Int) := by omega
  have hn20 : n ≤ 10 := by omega
  have hnl : n ≤ L.length := by omega
  have hcI : (n : Int) ≤ (cap : Int) := by omega
  clear hi hz0 hz1 hz2 hi1 hy0 hy1 hy2 hin hn
  have hal := ((Below.refl w.heap.size w).alloc (Nat.le_refl _) (.cells #[.int .u8 y.k, .int .i64 y.code, .int .u8 y.ak, .string y.name, .int .u64 y.key, .int .i64 y.ref, .int .i64 y.amt, .int .i64 y.n, .slice a L.length cap] 25))
  have XS := hide (heap_new w (.cells #[.int .u8 y.k, .int .i64 y.code, .int .u8 y.ak, .string y.name, .int .u64 y.key, .int .i64 y.ref, .int .i64 y.amt, .int .i64 y.n, .slice a L.length cap] 25))
  have BS := hide hal
  clear hal
  obtain ⟨k, ek, key, rf, am, co, ak, s, L0, nn⟩ := y
  dsimp only at *
  clear hy
  by_cases hb : 300 < s.size
  all_goals
    go_enter Try.func7, Try.ntmps7
    have XA := hide (heap_new (w.alloc (.cells #[.int .u8 k, .int .i64 co, .int .u8 ak, .string s, .int .u64 key, .int .i64 rf, .int .i64 am, .int .i64 nn, .slice a L.length cap] 25)) (.cells #[.int .u8 0, .int .u8 0, .int .u64 0, .int .i64 0, .int .i64 0, .int .i64 0, .int .u8 0, .string ⟨#[]⟩, .slice none 0 0, .int .i64 0] 39))
    have XB := hide (heap_new ((w.alloc (.cells #[.int .u8 k, .int .i64 co, .int .u8 ak, .string s, .int .u64 key, .int .i64 rf, .int .i64 am, .int .i64 nn, .slice a L.length cap] 25)).alloc (.cells #[.int .u8 0, .int .u8 0, .int .u64 0, .int .i64 0, .int .i64 0, .int .i64 0, .int .u8 0, .string ⟨#[]⟩, .slice none 0 0, .int .i64 0] 39)) (.cells #[.int .u8 0, .int .i64 0, .int .u8 0, .string ⟨#[]⟩, .int .u64 0, .int .i64 0, .int .i64 0, .int .i64 0, .slice none 0 0] 42))
    have hal2 := (Below.refl _ (w.alloc (.cells #[.int .u8 k, .int .i64 co, .int .u8 ak, .string s, .int .u64 key, .int .i64 rf, .int .i64 am, .int .i64 nn, .slice a L.length cap] 25))).alloc (Nat.le_refl _) (.cells #[.int .u8 0, .int .u8 0, .int .u64 0, .int .i64 0, .int .i64 0, .int .i64 0, .int .u8 0, .string ⟨#[]⟩, .slice none 0 0, .int .i64 0] 39)
    have hal3 := (Below.refl _ ((w.alloc (.cells #[.int .u8 k, .int .i64 co, .int .u8 ak, .string s, .int .u64 key, .int .i64 rf, .int .i64 am, .int .i64 nn, .slice a L.length cap] 25)).alloc (.cells #[.int .u8 0, .int .u8 0, .int .u64 0, .int .i64 0, .int .i64 0, .int .i64 0, .int .u8 0, .string ⟨#[]⟩, .slice none 0 0, .int .i64 0] 39))).alloc (Nat.le_refl _) (.cells #[.int .u8 0, .int .i64 0, .int .u8 0, .string ⟨#[]⟩, .int .u64 0, .int .i64 0, .int .i64 0, .int .i64 0, .slice none 0 0] 42)
    have B3 := hide ((BS.out.trans (hal2.mono BS.out.size)).trans (hal3.mono (Nat.le_trans BS.out.size hal2.size)))
    have XS3 := hide ((hal3.block _ (heap_lt ((hal2.block _ (heap_lt XS.out)).trans XS.out))).trans ((hal2.block _ (heap_lt XS.out)).trans XS.out))
    have XA3 := hide ((hal3.block _ (heap_lt XA.out)).trans XA.out)
    have hs1 : (w.alloc (.cells #[.int .u8 k, .int .i64 co, .int .u8 ak, .string s, .int .u64 key, .int .i64 rf, .int .i64 am, .int .i64 nn, .slice a L.length cap] 25)).heap.size = w.heap.size + 1 := by simp
    have hs2 : ((w.alloc (.cells #[.int .u8 k, .int .i64 co, .int .u8 ak, .string s, .int .u64 key, .int .i64 rf, .int .i64 am, .int .i64 nn, .slice a L.length cap] 25)).alloc (.cells #[.int .u8 0, .int .u8 0, .int .u64 0, .int .i64 0, .int .i64 0, .int .i64 0, .int .u8 0, .string ⟨#[]⟩, .slice none 0 0, .int .i64 0] 39)).heap.size = w.heap.size + 1 + 1 := by simp
    rw [hs1] at XA3
    rw [hs2] at XB
    go_upto_region 1 with (fail)
    generalize ((w.alloc (.cells #[.int .u8 k, .int .i64 co, .int .u8 ak, .string s, .int .u64 key, .int .i64 rf, .int .i64 am, .int .i64 nn, .slice a L.length cap] 25)).alloc (.cells #[.int .u8 0, .int .u8 0, .int .u64 0, .int .i64 0, .int .i64 0, .int .i64 0, .int .u8 0, .string ⟨#[]⟩, .slice none 0 0, .int .i64 0] 39)).alloc (.cells #[.int .u8 0, .int .i64 0, .int .u8 0, .string ⟨#[]⟩, .int .u64 0, .int .i64 0, .int .i64 0, .int .i64 0, .slice none 0 0] 42) = w3 at *
    clear hal2 hal3 hs1 hs2 XA XS BS
    have hwl : w.heap.size + 1 + 1 < w3.heap.size := heap_lt XB.out
    generalize hsb : w.heap.size = sb at XS3 XA3 XB hwl ⊢
    have HSB := hide hsb
    clear hsb
    have e3 := cell_of_block XS3.out 3
    go_upto_region 2 with (fail)
    clear e3
    first
      | (have HNM := hide (show nmB s = s.extract 0 300 from if_pos hb)
         generalize s.extract 0 300 = nm at *)
      | (have HNM := hide (show nmB s = s from if_neg hb)
         obtain ⟨nm, hnm⟩ : ∃ nm, nm = s := ⟨_, rfl⟩
         subst hnm)
    clear hb
    have e0 := cell_of_block XS3.out 0
    have e1 := cell_of_block XS3.out 1
    have e2 := cell_of_block XS3.out 2
    have e4 := cell_of_block XS3.out 4
    have e5 := cell_of_block XS3.out 5
    have e6 := cell_of_block XS3.out 6
    have e7 := cell_of_block XS3.out 7
    go_upto_region 3 with (fail)
    have hal := (Below.refl w3.heap.size w3).alloc (Nat.le_refl _) (.cells #[.int .u8 k, .int .u8 77, .int .u64 key, .int .i64 rf, .int .i64 am, .int .i64 co, .int .u8 ak, .string nm, .slice none 0 0, .int .i64 nn] 39)
    have XS4 := hide ((hal.block _ (heap_lt XS3.out)).trans XS3.out)
    have XA4 := hide ((hal.block _ (heap_lt XA3.out)).trans XA3.out)
    have XB4 := hide ((hal.block _ (heap_lt XB.out)).trans XB.out)
    have YA4 := hide (heap_new w3 (.cells #[.int .u8 k, .int .u8 77, .int .u64 key, .int .i64 rf, .int .i64 am, .int .i64 co, .int .u8 ak, .string nm, .slice none 0 0, .int .i64 nn] 39))
    have B4 := hide (B3.out.trans (hal.mono B3.out.size))
    have hab : sb + 1 + 1 < w3.heap.size := hwl
    clear hal e0 e1 e2 e4 e5 e6 e7 XS3 XA3 XB B3
    generalize w3.alloc (.cells #[.int .u8 k, .int .u8 77, .int .u64 key, .int .i64 rf, .int .i64 am, .int .i64 co, .int .u8 ak, .string nm, .slice none 0 0, .int .i64 nn] 39) = w4 at *
    generalize w3.heap.size = ab at *
    have e0 := cell_of_block XS4.out 0
    have e1 := cell_of_block XS4.out 1
    have e2 := cell_of_block XS4.out 2
    have e4 := cell_of_block XS4.out 4
    have e5 := cell_of_block XS4.out 5
    have e6 := cell_of_block XS4.out 6
    have e7 := cell_of_block XS4.out 7
    go_upto_region 4 with (fail)
    have hal := (Below.refl w4.heap.size w4).alloc (Nat.le_refl _) (.cells #[.int .u8 k, .int .i64 co, .int .u8 ak, .string nm, .int .u64 key, .int .i64 rf, .int .i64 am, .int .i64 nn, .slice none 0 0] 42)
    have XS5 := hide ((hal.block _ (heap_lt XS4.out)).trans XS4.out)
    have hbb : ab < w4.heap.size := heap_lt YA4.out
    have FN := hide (show OfF w (w4.alloc (.cells #[.int .u8 k, .int .i64 co, .int .u8 ak, .string nm, .int .u64 key, .int .i64 rf, .int .i64 am, .int .i64 nn, .slice none 0 0] 42)) (sb + 1) (sb + 1 + 1) ab w4.heap.size #[.int .u8 k, .int .u8 77, .int .u64 key, .int .i64 rf, .int .i64 am, .int .i64 co, .int .u8 ak, .string nm, .slice none 0 0, .int .i64 nn] #[.int .u8 k, .int .i64 co, .int .u8 ak, .string nm, .int .u64 key, .int .i64 rf, .int .i64 am, .int .i64 nn, .slice none 0 0] from
      ⟨(hal.block _ (heap_lt XA4.out)).trans XA4.out, (hal.block _ (heap_lt XB4.out)).trans XB4.out, (hal.block _ (heap_lt YA4.out)).trans YA4.out, heap_new _ _, B4.out.trans (hal.mono B4.out.size), ⟨by have := HSB.out; omega, by have := HSB.out; omega, by have := HSB.out; omega, by have := HSB.out; omega⟩, by omega, by omega⟩)
    clear hal e0 e1 e2 e4 e5 e6 e7 XS4 XA4 XB4 YA4 B4
    generalize w4.alloc (.cells #[.int .u8 k, .int .i64 co, .int .u8 ak, .string nm, .int .u64 key, .int .i64 rf, .int .i64 am, .int .i64 nn, .slice none 0 0] 42) = w5 at *
    generalize w4.heap.size = bb at *
    have e8 := cell_of_block XS5.out 8
    go_wp2_with fail
    clear e8
    generalize sb + 1 + 1 = rb at *
    generalize sb + 1 = ra at *
    go_loopw [58] (fun i W => ∃ (m : Nat) (a4 : Option Addr) (c4 : Nat) (a5 : Option Addr) (c5 : Nat), m ≤ n ∧ i = .int .i64 m ∧ OfF w W ra rb ab bb #[.int .u8 k, .int .u8 77, .int .u64 key, .int .i64 rf, .int .i64 am, .int .i64 co, .int .u8 ak, .string nm, .slice a4 m c4, .int .i64 nn] #[.int .u8 k, .int .i64 co, .int .u8 ak, .string nm, .int .u64 key, .int .i64 rf, .int .i64 am, .int .i64 nn, .slice a5 m c5] ∧ W.ownsRow w.heap.size 81 2 (.slice a4 m c4) m ((L.take m).flatMap lnC) ∧ W.ownsRow w.heap.size 82 2 (.slice a5 m c5) m ((L.take m).flatMap lnC)) (fun i _ => n - (intOf i).toNat)
    case atStart => exact ⟨0, none, 0, none, 0, by omega, rfl, FN.out, World.ownsRow_nil _ _ _ _, World.ownsRow_nil _ _ _ _⟩
    case round =>
      obtain ⟨m, a4, c4, a5, c5, hm, rfl, hf, ho, ho'⟩ := hrel
      have FK := hide hf
      have OA := hide ho
      have OB := hide ho'
      clear hf ho ho' FN XS5
      by_cases hlt : m < n
      · obtain ⟨b, off, rfl, hbl, c0, c1⟩ := (HIN.out.below FK.out.below) m (by omega)
        have HTN := hide (ln_next L m (by omega))
        generalize L.getD m ln0 = x at *
        obtain ⟨xc, xn⟩ := x
        dsimp only at *
        go_upto_region 7 with (fail)
        obtain ⟨ob, hob⟩ : ∃ ob, ob = (Obj.cells #[.int .i64 xc, .int .i64 xn] 79) := ⟨_, rfl⟩
        rw [← hob]
        have hal := (Below.refl wr.heap.size wr).alloc (Nat.le_refl _) ob
        have X1 := hide (show (wr.alloc ob).heap[wr.heap.size]? = some (.cells #[.int .i64 xc, .int .i64 xn] 79 (0, 0)) by rw [heap_new, hob])
        have OA1 := hide (owns_below OA.out hal)
        have OB1 := hide (owns_below OB.out hal)
        have F1 := hide (FK.out.low hal)
        clear hal OA OB FK hbl c0 c1
        generalize wr.alloc ob = w1 at *
        generalize wr.heap.size = q at *
        clear hob ob
        have d0 := cell_of_block X1.out 0
        have d1 := cell_of_block X1.out 1
        have e8 := cell_of_block F1.out.a 8
        have hal := (Below.refl w1.heap.size w1).alloc (Nat.le_refl _) (.cells #[.int .i64 xc, .int .i64 xn] 81)
        have XN := hide (heap_new w1 (.cells #[.int .i64 xc, .int .i64 xn] 81))
        have X2 := hide ((hal.block _ (heap_lt X1.out)).trans X1.out)
        have OA2 := hide (owns_below OA1.out hal)
        have OB2 := hide (owns_below OB1.out hal)
        have F2 := hide (F1.out.low hal)
        have hw2 : w.heap.size ≤ (w1.alloc (.cells #[.int .i64 xc, .int .i64 xn] 81)).heap.size := F2.out.below.size
        clear hal OA1 OB1 F1
        go_upto_region 8 with (at_builtin; refine wpList_append_own2 _ rfl _ _ 35 rfl w.heap.size 81 i0 (.agg #[.int .i64 0, .int .i64 0]) 2 16 Try.underlying35 HI.out HZ0.out HZ1.out HZ2.out rfl (by decide) (.slice a4 m c4) m ((L.take m).flatMap lnC) rfl OA2.out ⟨w1.heap.size, 0, none⟩ 1 1 (by decide) (lnC ⟨xc, xn⟩) rfl rfl (cells_new XN.out) (lnC_one _) (by unfold maxLen; omega) (by omega) hw2 ?_; intro g3 c3' w3 ho hgr hnil; have OA3 := hide ho; have OB3 := hide (owns_kept_o OB2.out OA2.out (by decide) hgr); have F3 := hide (F2.out.grown (e := 81) OA2.out hgr (by decide) (by decide)); have X3 := hide (grown_keep OA2.out hgr X2.out (by decide)); clear ho hgr hnil; have e8' := cell_of_block F3.out.a 8; have f8' := frozen_of_block F3.out.a 8)
        have F4 := hide (show OfF w (w3.setCell ⟨ab, 8, none⟩ (.slice (some ⟨g3, 0, none⟩) (m + 1) c3')) ra rb ab bb #[.int .u8 k, .int .u8 77, .int .u64 key, .int .i64 rf, .int .i64 am, .int .i64 co, .int .u8 ak, .string nm, (.slice (some ⟨g3, 0, none⟩) (m + 1) c3'), .int .i64 nn] #[.int .u8 k, .int .i64 co, .int .u8 ak, .string nm, .int .u64 key, .int .i64 rf, .int .i64 am, .int .i64 nn, .slice a5 m c5] from F3.out.setA 8 (.slice (some ⟨g3, 0, none⟩) (m + 1) c3'))
        have OA4 := hide (owns_putCell OA3.out F3.out.a (by decide) 8 (.slice (some ⟨g3, 0, none⟩) (m + 1) c3'))
        have OB4 := hide (owns_putCell OB3.out F3.out.a (by decide) 8 (.slice (some ⟨g3, 0, none⟩) (m + 1) c3'))
        have X4 := hide ((block_setCell_other (blocks_apart F3.out.a X3.out (by decide)) 8 (.slice (some ⟨g3, 0, none⟩) (m + 1) c3')).trans X3.out)
        clear OA2 OB2 F2 X2 X1 XN hw2 d0 d1 e8 e8' f8' OA3 OB3 F3 X3
        generalize w3.setCell ⟨ab, 8, none⟩ (.slice (some ⟨g3, 0, none⟩) (m + 1) c3') = w4 at *
        have d0 := cell_of_block X4.out 0
        have d1 := cell_of_block X4.out 1
        have e8 := cell_of_block F4.out.b 8
        have hal := (Below.refl w4.heap.size w4).alloc (Nat.le_refl _) (.cells #[.int .i64 xc, .int .i64 xn] 82)
        have XN := hide (heap_new w4 (.cells #[.int .i64 xc, .int .i64 xn] 82))
        have OA5 := hide (owns_below OA4.out hal)
        have OB5 := hide (owns_below OB4.out hal)
        have F5 := hide (F4.out.low hal)
        have hw2 : w.heap.size ≤ (w4.alloc (.cells #[.int .i64 xc, .int .i64 xn] 82)).heap.size := F5.out.below.size
        clear hal OA4 OB4 F4
        go_wp2_with (at_builtin; refine wpList_append_own2 _ rfl _ _ 40 rfl w.heap.size 82 i1 (.agg #[.int .i64 0, .int .i64 0]) 2 16 Try.underlying40 HI1.out HY0.out HY1.out HY2.out rfl (by decide) (.slice a5 m c5) m ((L.take m).flatMap lnC) rfl OB5.out ⟨w4.heap.size, 0, none⟩ 1 1 (by decide) (lnC ⟨xc, xn⟩) rfl rfl (cells_new XN.out) (lnC_one _) (by unfold maxLen; omega) (by omega) hw2 ?_; intro g5 c5' w5 ho hgr hnil; have OB6 := hide ho; have OA6 := hide (owns_kept_o OA5.out OB5.out (by decide) hgr); have F6 := hide (F5.out.grown (e := 82) OB5.out hgr (by decide) (by decide)); clear ho hgr hnil; have e8' := cell_of_block F6.out.b 8; have f8' := frozen_of_block F6.out.b 8)
        have F7 := hide (show OfF w (w5.setCell ⟨bb, 8, none⟩ (.slice (some ⟨g5, 0, none⟩) (m + 1) c5')) ra rb ab bb #[.int .u8 k, .int .u8 77, .int .u64 key, .int .i64 rf, .int .i64 am, .int .i64 co, .int .u8 ak, .string nm, (.slice (some ⟨g3, 0, none⟩) (m + 1) c3'), .int .i64 nn] #[.int .u8 k, .int .i64 co, .int .u8 ak, .string nm, .int .u64 key, .int .i64 rf, .int .i64 am, .int .i64 nn, (.slice (some ⟨g5, 0, none⟩) (m + 1) c5')] from F6.out.setB 8 (.slice (some ⟨g5, 0, none⟩) (m + 1) c5'))
        have OA7 := hide (owns_putCell OA6.out F6.out.b (by decide) 8 (.slice (some ⟨g5, 0, none⟩) (m + 1) c5'))
        have OB7 := hide (owns_putCell OB6.out F6.out.b (by decide) 8 (.slice (some ⟨g5, 0, none⟩) (m + 1) c5'))
        go_roundw
        case rel => exact ⟨m + 1, _, _, _, _, by omega, by go_num, F7.out, by rw [HTN.out, List.flatMap_append]; simpa using OA7.out, by rw [HTN.out, List.flatMap_append]; simpa using OB7.out⟩
        case measure => simp [intOf]; omega
      · obtain rfl : n = m := by omega
        have FN := hide (show OfF w wr.drew ra rb ab bb #[.int .u8 k, .int .u8 77, .int .u64 key, .int .i64 rf, .int .i64 am, .int .i64 co, .int .u8 ak, .string nm, .slice a4 n c4, .int .i64 nn] #[.int .u8 k, .int .i64 co, .int .u8 ak, .string nm, .int .u64 key, .int .i64 rf, .int .i64 am, .int .i64 nn, .slice a5 n c5] from FK.out.drew)
        have OA1 := hide (show wr.drew.ownsRow w.heap.size 81 2 (.slice a4 n c4) n ((L.take n).flatMap lnC) from OA.out)
        have OB1 := hide (show wr.drew.ownsRow w.heap.size 82 2 (.slice a5 n c5) n ((L.take n).flatMap lnC) from OB.out)
        go_upto_region 10 with (fail)
        refine wp_region_held_drew (S := (fun W => W.heap[ab]? = some (.cells #[.int .u8 k, .int .u8 77, .int .u64 key, .int .i64 rf, .int .i64 am, .int .i64 co, .int .u8 ak, .string nm, .slice a4 n c4, .int .i64 nn] 39 (0, 0)) ∧ W.heap[bb]? = some (.cells #[.int .u8 k, .int .i64 co, .int .u8 ak, .string nm, .int .u64 key, .int .i64 rf, .int .i64 am, .int .i64 nn, .slice a5 n c5] 42 (0, 0)))) (by kernel_rfl) (⟨FN.out.a, FN.out.b⟩) (fun hHeld => ?_)
        generalize wr.drew = v0 at *
        refine wpAnyH_take (i := 0) (oi := { dst := some 81, op := Op.load 39 (Operand.tmp 5), type := 39, pos := "law.go:45", after := #[], guard := none }) (v := ?_) rfl (by kernel_rfl) (by kernel_rfl) (by kernel_rfl) (fun _ _ _ h => h) (Or.inl ⟨by kernel_rfl, ?_⟩) hHeld ?_
        rotate_left
        · (intro w hSw; (try dsimp only at hSw); have e0 := cell_of_block hSw.1 0; have e1 := cell_of_block hSw.1 1; have e2 := cell_of_block hSw.1 2; have e3 := cell_of_block hSw.1 3; have e4 := cell_of_block hSw.1 4; have e5 := cell_of_block hSw.1 5; have e6 := cell_of_block hSw.1 6; have e7 := cell_of_block hSw.1 7; have e8 := cell_of_block hSw.1 8; have e9 := cell_of_block hSw.1 9; have g0 := cell_of_block hSw.2 0; have g1 := cell_of_block hSw.2 1; have g2 := cell_of_block hSw.2 2; have g3 := cell_of_block hSw.2 3; have g4 := cell_of_block hSw.2 4; have g5 := cell_of_block hSw.2 5; have g6 := cell_of_block hSw.2 6; have g7 := cell_of_block hSw.2 7; have g8 := cell_of_block hSw.2 8; go_simp); try with_reducible rfl
        try simp only [Act.put, List.setIfInBounds_toArray, List.set_cons_zero, List.set_cons_succ]
        refine wpAnyH_take (i := 1) (oi := { dst := some 82, op := Op.load 42 (Operand.tmp 6), type := 42, pos := "law.go:45", after := #[{ on := 2, ground := Ground.gcOnly Departure.lateStores }], guard := none }) (v := ?_) rfl (by kernel_rfl) (by kernel_rfl) (by kernel_rfl) (fun _ _ _ h => h) (Or.inl ⟨by kernel_rfl, ?_⟩) hHeld ?_
        rotate_left
        · (intro w hSw; (try dsimp only at hSw); have e0 := cell_of_block hSw.1 0; have e1 := cell_of_block hSw.1 1; have e2 := cell_of_block hSw.1 2; have e3 := cell_of_block hSw.1 3; have e4 := cell_of_block hSw.1 4; have e5 := cell_of_block hSw.1 5; have e6 := cell_of_block hSw.1 6; have e7 := cell_of_block hSw.1 7; have e8 := cell_of_block hSw.1 8; have e9 := cell_of_block hSw.1 9; have g0 := cell_of_block hSw.2 0; have g1 := cell_of_block hSw.2 1; have g2 := cell_of_block hSw.2 2; have g3 := cell_of_block hSw.2 3; have g4 := cell_of_block hSw.2 4; have g5 := cell_of_block hSw.2 5; have g6 := cell_of_block hSw.2 6; have g7 := cell_of_block hSw.2 7; have g8 := cell_of_block hSw.2 8; go_simp); try with_reducible rfl
        try simp only [Act.put, List.setIfInBounds_toArray, List.set_cons_zero, List.set_cons_succ]
        refine wpAnyH_ready (rs := [2]) (by kernel_rfl) (by simp) (AllReadyH.cons (o := { dst := none, op := Op.store 39 (Operand.tmp 2) (Operand.tmp 81), type := 0, pos := "law.go:45", after := #[{ on := 0, ground := Ground.data }, { on := 0, ground := Ground.phase }, { on := 1, ground := Ground.textOnly Departure.lateStores }], guard := none }) rfl (fun K hK => ?_) AllReadyH.nil)
        have hOld := hide hHeld
        clear hHeld
        refine wp_rowStore 39 (.tmp 2) (.tmp 81) rfl ra rfl #[.int .u8 k, .int .u8 77, .int .u64 key, .int .i64 rf, .int .i64 am, .int .i64 co, .int .u8 ak, .string nm, .slice a4 n c4, .int .i64 nn] rfl #[.int .u8 0, .int .u8 0, .int .u64 0, .int .i64 0, .int .i64 0, .int .i64 0, .int .u8 0, .string ⟨#[]⟩, .slice none 0 0, .int .i64 0] FN.out.resA (by kernel_rfl) rfl (by simp [Value.oneCell']) ?_
        have FA := hide FN.out.putA
        have OA2 := hide (owns_putRow OA1.out FN.out.resA (by decide) #[.int .u8 k, .int .u8 77, .int .u64 key, .int .i64 rf, .int .i64 am, .int .i64 co, .int .u8 ak, .string nm, .slice a4 n c4, .int .i64 nn])
        have OB2 := hide (owns_putRow OB1.out FN.out.resA (by decide) #[.int .u8 k, .int .u8 77, .int .u64 key, .int .i64 rf, .int .i64 am, .int .i64 co, .int .u8 ak, .string nm, .slice a4 n c4, .int .i64 nn])
        refine hK.out _ _ (⟨FA.out.a, FA.out.b⟩) (fun hHeld => ?_)
        clear hK K hOld
        try simp only [Act.put, List.setIfInBounds_toArray, List.set_cons_zero, List.set_cons_succ]
        refine wpAnyH_ready (rs := [3]) (by kernel_rfl) (by simp) (AllReadyH.cons (o := { dst := none, op := Op.store 42 (Operand.tmp 3) (Operand.tmp 82), type := 0, pos := "law.go:45", after := #[{ on := 1, ground := Ground.data }, { on := 2, ground := Ground.chain }, { on := 0, ground := Ground.phase }, { on := 1, ground := Ground.phase }, { on := 2, ground := Ground.phase }], guard := none }) rfl (fun K hK => ?_) AllReadyH.nil)
        have hOld := hide hHeld
        clear hHeld
        refine wp_rowStore 42 (.tmp 3) (.tmp 82) rfl rb rfl #[.int .u8 k, .int .i64 co, .int .u8 ak, .string nm, .int .u64 key, .int .i64 rf, .int .i64 am, .int .i64 nn, .slice a5 n c5] rfl #[.int .u8 0, .int .i64 0, .int .u8 0, .string ⟨#[]⟩, .int .u64 0, .int .i64 0, .int .i64 0, .int .i64 0, .slice none 0 0] FA.out.resB (by kernel_rfl) rfl (by simp [Value.oneCell']) ?_
        have FB := hide FA.out.putB
        have OA3 := hide (owns_putRow OA2.out FA.out.resB (by decide) #[.int .u8 k, .int .i64 co, .int .u8 ak, .string nm, .int .u64 key, .int .i64 rf, .int .i64 am, .int .i64 nn, .slice a5 n c5])
        have OB3 := hide (owns_putRow OB2.out FA.out.resB (by decide) #[.int .u8 k, .int .i64 co, .int .u8 ak, .string nm, .int .u64 key, .int .i64 rf, .int .i64 am, .int .i64 nn, .slice a5 n c5])
        refine hK.out _ _ (⟨FB.out.1, FB.out.2.1⟩) (fun hHeld => ?_)
        clear hK K hOld
        try simp only [Act.put, List.setIfInBounds_toArray, List.set_cons_zero, List.set_cons_succ]
        refine wpAnyH_done (by kernel_rfl) ?_ _
        clear hHeld
        go_wp2_with fail
        (try simp only [Exit.inBlock, Exit.then])
        obtain ⟨-, -, HRA, HRB, HBL⟩ := FB.out
        have hl : (L.take n).length = n := by rw [List.length_take]; omega
        refine bodyPost_ret (res_cells (P := Try.prog) rfl _ _ ra rb 39 42 #[.int .u8 k, .int .u8 77, .int .u64 key, .int .i64 rf, .int .i64 am, .int .i64 co, .int .u8 ak, .string nm, .slice a4 n c4, .int .i64 nn] #[.int .u8 k, .int .i64 co, .int .u8 ak, .string nm, .int .u64 key, .int .i64 rf, .int .i64 am, .int .i64 nn, .slice a5 n c5] (0, 0) (0, 0) _ _ rfl rfl HRA HRB Try.underlying39 Try.underlying42 rfl rfl (by kernel_rfl) (by kernel_rfl)) rfl ?_
        refine ⟨a4, c4, a5, c5, ?_, LnIn.of_owns (c := c4) (by rw [hl]; exact OA3.out), LnIn.of_owns (c := c5) (by rw [hl]; exact OB3.out), HBL⟩
        dsimp only
        rw [HNM.out]
end Go.Proofs.Ytkbikflincjhhaa
