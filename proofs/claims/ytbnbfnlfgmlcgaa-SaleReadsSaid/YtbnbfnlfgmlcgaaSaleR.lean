/-
  Layer 25: settled and readTx by contract.
-/
import Derived.Test.YtbnbfnlfgmlcgaaMSaleR
import Derived.Test.YtbnbfnlfgmlcgaaSale
import Derived.Test.YtbnbfnlfgmlcgaaKitRow
--import Derived.Test.Zdbg
namespace Go.Proofs.Ytbnbfnlfgmlcgaa
set_option linter.unusedSimpArgs false
set_option linter.unusedVariables false
open Go.RowKit Go.WideShapes Go.ChangeShapes Go.ChangeAt Go.Deep

theorem res_ct {P : Program} {fn : Func} {p u : Tmp} {ty : TypeId} (h : fn.results = #[.cell p ty, .tmp u]) (tmps : Array Value) (w : World) (g : Nat) (ty2 : TypeId) (cs : Array Value) (fr : Nat × Nat) (d : TypeDesc)
    (hp : tmps.getD p undef = .pointer (some ⟨g, 0, none⟩)) (hg : w.heap[g]? = some (.cells cs ty2 fr)) (hu : P.underlying ty = some d) (hd : (match d with | .struct _ | .array _ _ => true | _ => false) = true) (hi : (P.info? ty).map (·.size) = some cs.size) :
    (results fn tmps).run P w = .ok (.tuple #[.agg cs, tmps.getD u undef]) w := by
  have hp' : tmps[p]?.getD undef = .pointer (some ⟨g, 0, none⟩) := by simpa using hp
  simp [results, h, hp', asAddr, run_loadVar_row w g ty2 ty cs fr d hg hu hd hi]
theorem Only.newRow {p A : Nat} {w W : World} (h : Only p w W) (hA : w.heap.size ≤ A) (cs : Array Value) : Only p w (W.setRow A cs) := by
  have ho := setRow_only W A cs
  exact ⟨ho.os.trans h.os, ho.tape.trans h.tape, ho.output.trans h.output, Nat.le_trans h.size ho.size, fun k hk hp => (ho.block k (Nat.lt_of_lt_of_le hk h.size) (by omega)).trans (h.block k hk hp)⟩
theorem RQ.only {W W' : World} {p : Nat} {ok : Bool} {l : List UInt8} (h : RQ W p ok l) {g : Nat} (ho : Only g W W') (hg : p ≠ g) : RQ W' p ok l := by
  obtain ⟨s, h1, h2⟩ := h
  exact ⟨s, ⟨(ho.block p (heap_lt h1.row) hg).trans h1.row⟩, h2⟩
theorem wpList_rowLoadG2 {P : Program} {ops : Array Oper} {rest : List Oper} {o : Oper} {a : Act} {w : World} {Q : Exit → Act → World → Prop} (hw : Region.wanted o (yielded ops a.tmps) = true) (ty : TypeId) (x : Operand) (ho : o.op = .load ty x)
    (g : Nat) (hx : a.eval x = .pointer (some ⟨g, 0, none⟩)) (t : TypeId) (cs : Array Value) (fr : Nat × Nat) (d : TypeDesc) (hg : w.heap[g]? = some (.cells cs t fr))
    (hu : P.underlying ty = some d) (hd : (match d with | .struct _ | .array _ _ => true | _ => false) = true) (hi : (P.info? ty).map (·.size) = some cs.size)
    (h : wpList P ops Q rest (a.put o.dst (.agg cs)) w) : wpList P ops Q (o :: rest) a w :=
  wpList_step fun _ hK => by
    rw [if_pos hw]
    exact wp_load_row ty x ho g hx t cs fr d hg hu hd hi (hK _ _ h)
set_option maxRecDepth 100000 in
theorem settled_any (x : TxA) (w : World) :
    Calls Try.prog 57 #[txV x] w fun e w' => e = .returned (.bool (setT x.t)) ∧ Below w.heap.size w w' := by
  obtain ⟨⟨num, k, s, r, am, le, vb, LL⟩, a, c⟩ := x
  unfold txV txC setT
  dsimp only
  go_enter Try.func57, Try.ntmps57
  cases vb
  · by_cases hk : k = 1
    · subst hk
      by_cases h1 : 0 ≤ le
      · by_cases h2 : le ≤ am
        · go_wp2_with fail
          go_ret
          exact ⟨by simp [h1, h2], by first | exact (Below.refl _ _).alloc (Nat.le_refl _) _ | exact Below.refl _ _⟩
        · have h3 : am < le := by omega
          go_wp2_with fail
          go_ret
          exact ⟨by simp [h1, h2], by first | exact (Below.refl _ _).alloc (Nat.le_refl _) _ | exact Below.refl _ _⟩
      · have h3 : le < 0 := by omega
        go_wp2_with fail
        go_ret
        exact ⟨by simp [h1]; try omega, by first | exact (Below.refl _ _).alloc (Nat.le_refl _) _ | exact Below.refl _ _⟩
    · by_cases h1 : le = 0
      · subst h1
        go_wp2_with fail
        go_ret
        exact ⟨by simp [hk], by first | exact (Below.refl _ _).alloc (Nat.le_refl _) _ | exact Below.refl _ _⟩
      · go_wp2_with fail
        go_ret
        exact ⟨by simp [hk, h1], by first | exact (Below.refl _ _).alloc (Nat.le_refl _) _ | exact Below.refl _ _⟩
  · by_cases hk : k = 1
    · subst hk
      by_cases h1 : le = 0
      · subst h1
        go_wp2_with fail
        go_ret
        exact ⟨by simp, by first | exact (Below.refl _ _).alloc (Nat.le_refl _) _ | exact Below.refl _ _⟩
      · go_wp2_with fail
        go_ret
        exact ⟨by simp [h1], by first | exact (Below.refl _ _).alloc (Nat.le_refl _) _ | exact Below.refl _ _⟩
    · by_cases h1 : le = 0
      · subst h1
        go_wp2_with fail
        go_ret
        exact ⟨by simp [hk], by first | exact (Below.refl _ _).alloc (Nat.le_refl _) _ | exact Below.refl _ _⟩
      · go_wp2_with fail
        go_ret
        exact ⟨by simp [hk, h1], by first | exact (Below.refl _ _).alloc (Nat.le_refl _) _ | exact Below.refl _ _⟩
def RTxIs (p : Nat) (ok : Bool) (l : List UInt8) (W : World) (e : Ending) (w' : World) : Prop :=
  (∃ a c, (ok = true ∧ txG l = true) ∧ e = .returned (.tuple #[txV ⟨txR l, a, c⟩, .int .i64 0]) ∧ LnTy 80 W.heap.size w' a (txR l).L ∧ RQ w' p true (txRest l) ∧ Only p W w') ∨ (¬ (ok = true ∧ txG l = true) ∧ e = .returned (.tuple #[txV ta0, .int .i64 4]) ∧ Only p W w')
set_option maxRecDepth 100000 in
set_option maxHeartbeats 4000000 in
theorem readTx_any (p : Nat) (ok : Bool) (l : List UInt8) (w : World) (h : RQ w p ok l) : Calls Try.prog 33 #[.pointer (some ⟨p, 0, none⟩)] w (RTxIs p ok l w) := by
  obtain ⟨k, s, r, v, am, le, o1, o2, o3, o4, o5, o6, l1, l2, l3, l4, l5, l6, ek, e1, f1, es, e2, f2, er, e3, f3, ea, e4, f4, el, e5, f5, ev, e6, f6, hk, hs, hr, hv, ha, hl, hyes, hno⟩ := tx_all ok l
  have HN1 := hide (fun W h => rq_number p ok l 1 (by decide) (by decide) W h)
  have HN2 := hide (fun W h => rq_number p o1 l1 4 (by decide) (by decide) W h)
  have HN3 := hide (fun W h => rq_number p o2 l2 4 (by decide) (by decide) W h)
  have HN4 := hide (fun W h => rq_signed p o3 l3 W h)
  have HN5 := hide (fun W h => rq_signed p o4 l4 W h)
  have HN6 := hide (fun W h => rq_number p o5 l5 1 (by decide) (by decide) W h)
  have HPO := hide (fun W h => rq_post p o6 l6 W h)
  unfold RNIs at HN1 HN2 HN3 HN4 HN5 HN6
  unfold RPIs at HPO
  rw [← ek, ← e1, ← f1] at HN1
  rw [← es, ← e2, ← f2] at HN2
  rw [← er, ← e3, ← f3] at HN3
  rw [← ea, ← e4, ← f4] at HN4
  rw [← el, ← e5, ← f5] at HN5
  rw [← ev, ← e6, ← f6] at HN6
  have HYES := hide hyes
  have HNO := hide hno
  have HLK := hide (poL_ok o6 l6)
  have Q0 := hide h
  have HPL := hide h.lt
  have HIN := hide (show inR am ∧ inR le from ⟨ha, hl⟩)
  clear ek e1 f1 es e2 f2 er e3 f3 ea e4 f4 el e5 f5 ev e6 f6 hyes hno h ha hl
  have hk1 : IntKind.u8.wrap (k : Int) = (k : Int) := by rw [IntKind.wrap_u8]; omega
  have hs1 : IntKind.i64.wrap (s : Int) = (s : Int) := by rw [IntKind.wrap_i64]; omega
  have hs2 : wrap64 (s : Int) = (s : Int) := by unfold wrap64; omega
  have hr1 : IntKind.i64.wrap (r : Int) = (r : Int) := by rw [IntKind.wrap_i64]; omega
  have hr2 : wrap64 (r : Int) = (r : Int) := by unfold wrap64; omega
  have HNUM := hide (show k < 256 ∧ s < 4294967296 ∧ r < 4294967296 ∧ v < 256 from ⟨hk, hs, hr, hv⟩)
  obtain ⟨oz, hoz⟩ : ∃ o, o = Obj.cells #[.int .i64 0, .int .u8 0, .int .i64 0, .int .i64 0, .int .i64 0, .int .i64 0, .bool false, .slice none 0 0] 35 := ⟨_, rfl⟩
  go_enter Try.func33, Try.ntmps33
  go_upto_region 2 with (fail)
  rw [← hoz]
  have hal := ((Below.refl w.heap.size w).alloc (Nat.le_refl _) oz).alloc (show w.heap.size ≤ (w.alloc oz).heap.size by simp) oz
  have XR2 := hide (show ((w.alloc oz).alloc oz).heap[w.heap.size]? = some oz by rw [heap_old _ _ _ (by simp), heap_new])
  have XT2 := hide (show ((w.alloc oz).alloc oz).heap[w.heap.size + 1]? = some oz by exact heap_alloc2_new w _ _)
  have Q2 := hide (Q0.out.below hal)
  have ON2 := hide (Only.of_below (q := p) hal)
  clear hal Q0
  generalize (w.alloc oz).alloc oz = w2 at *
  rw [hoz] at XR2 XT2
  clear hoz oz
  obtain ⟨rb, hrb⟩ : ∃ k, w.heap.size = k := ⟨_, rfl⟩
  obtain ⟨tb, htb⟩ : ∃ k, rb + 1 = k := ⟨_, rfl⟩
  have HRB := hide (show w.heap.size ≤ rb by omega)
  have HTB := hide (show w.heap.size ≤ tb by omega)
  have HNE := hide (show tb ≠ p ∧ rb ≠ p ∧ rb ≠ tb from by have := HPL.out; omega)
  rw [hrb] at XR2 XT2 ⊢
  rw [htb] at XT2 ⊢
  clear hrb htb
  go_wp2_with fail
  refine (HN1.out _ Q2.out).mono ?_
  rintro e w3 ⟨rfl, hq, ho⟩
  have Q3 := hide hq
  have XT3 := hide ((ho.block _ (heap_lt XT2.out) HNE.out.1).trans XT2.out)
  have XR3 := hide ((ho.block _ (heap_lt XR2.out) HNE.out.2.1).trans XR2.out)
  have ON3 := hide (ON2.out.trans ho)
  clear hq ho Q2 XT2 XR2 ON2 HN1
  have ct : w3.cell? ⟨tb, 1, none⟩ = some (.int .u8 0) := cell_of_block XT3.out 1
  have ft : w3.frozen? ⟨tb, 1, none⟩ = false := frozen_of_block XT3.out 1
  go_upto_region 3 with (fail)
  have XT4 := hide (show (w3.setCell ⟨tb, 1, none⟩ (.int .u8 (k : Int))).heap[tb]? = some (.cells #[.int .i64 0, .int .u8 (k : Int), .int .i64 0, .int .i64 0, .int .i64 0, .int .i64 0, .bool false, .slice none 0 0] 35 (0, 0)) from block_setCell XT3.out 1 (.int .u8 (k : Int)))
  have XR4 := hide ((block_setCell_other HNE.out.2.2.symm 1 (.int .u8 (k : Int))).trans XR3.out)
  have Q4 := hide (Q3.out.other HNE.out.1 1 (.int .u8 (k : Int)))
  have ON4 := hide (ON3.out.new HTB.out 1 (.int .u8 (k : Int)))
  clear ct ft XT3 XR3 Q3 ON3
  generalize w3.setCell ⟨tb, 1, none⟩ (.int .u8 (k : Int)) = w4 at *
  go_wp2_with fail
  refine (HN2.out _ Q4.out).mono ?_
  rintro e w5 ⟨rfl, hq, ho⟩
  have Q5 := hide hq
  have XT5 := hide ((ho.block _ (heap_lt XT4.out) HNE.out.1).trans XT4.out)
  have XR5 := hide ((ho.block _ (heap_lt XR4.out) HNE.out.2.1).trans XR4.out)
  have ON5 := hide (ON4.out.trans ho)
  clear hq ho Q4 XT4 XR4 ON4 HN2
  have ct : w5.cell? ⟨tb, 2, none⟩ = some (.int .i64 0) := cell_of_block XT5.out 2
  have ft : w5.frozen? ⟨tb, 2, none⟩ = false := frozen_of_block XT5.out 2
  go_upto_region 4 with (fail)
  have XT6 := hide (show (w5.setCell ⟨tb, 2, none⟩ (.int .i64 (s : Int))).heap[tb]? = some (.cells #[.int .i64 0, .int .u8 (k : Int), .int .i64 (s : Int), .int .i64 0, .int .i64 0, .int .i64 0, .bool false, .slice none 0 0] 35 (0, 0)) from block_setCell XT5.out 2 (.int .i64 (s : Int)))
  have XR6 := hide ((block_setCell_other HNE.out.2.2.symm 2 (.int .i64 (s : Int))).trans XR5.out)
  have Q6 := hide (Q5.out.other HNE.out.1 2 (.int .i64 (s : Int)))
  have ON6 := hide (ON5.out.new HTB.out 2 (.int .i64 (s : Int)))
  clear ct ft XT5 XR5 Q5 ON5
  generalize w5.setCell ⟨tb, 2, none⟩ (.int .i64 (s : Int)) = w6 at *
  go_wp2_with fail
  refine (HN3.out _ Q6.out).mono ?_
  rintro e w7 ⟨rfl, hq, ho⟩
  have Q7 := hide hq
  have XT7 := hide ((ho.block _ (heap_lt XT6.out) HNE.out.1).trans XT6.out)
  have XR7 := hide ((ho.block _ (heap_lt XR6.out) HNE.out.2.1).trans XR6.out)
  have ON7 := hide (ON6.out.trans ho)
  clear hq ho Q6 XT6 XR6 ON6 HN3
  have ct : w7.cell? ⟨tb, 3, none⟩ = some (.int .i64 0) := cell_of_block XT7.out 3
  have ft : w7.frozen? ⟨tb, 3, none⟩ = false := frozen_of_block XT7.out 3
  go_upto_region 5 with (fail)
  have XT8 := hide (show (w7.setCell ⟨tb, 3, none⟩ (.int .i64 (r : Int))).heap[tb]? = some (.cells #[.int .i64 0, .int .u8 (k : Int), .int .i64 (s : Int), .int .i64 (r : Int), .int .i64 0, .int .i64 0, .bool false, .slice none 0 0] 35 (0, 0)) from block_setCell XT7.out 3 (.int .i64 (r : Int)))
  have XR8 := hide ((block_setCell_other HNE.out.2.2.symm 3 (.int .i64 (r : Int))).trans XR7.out)
  have Q8 := hide (Q7.out.other HNE.out.1 3 (.int .i64 (r : Int)))
  have ON8 := hide (ON7.out.new HTB.out 3 (.int .i64 (r : Int)))
  clear ct ft XT7 XR7 Q7 ON7
  generalize w7.setCell ⟨tb, 3, none⟩ (.int .i64 (r : Int)) = w8 at *
  go_wp2_with fail
  refine (HN4.out _ Q8.out).mono ?_
  rintro e w9 ⟨rfl, hq, ho⟩
  have Q9 := hide hq
  have XT9 := hide ((ho.block _ (heap_lt XT8.out) HNE.out.1).trans XT8.out)
  have XR9 := hide ((ho.block _ (heap_lt XR8.out) HNE.out.2.1).trans XR8.out)
  have ON9 := hide (ON8.out.trans ho)
  clear hq ho Q8 XT8 XR8 ON8 HN4
  have ct : w9.cell? ⟨tb, 4, none⟩ = some (.int .i64 0) := cell_of_block XT9.out 4
  have ft : w9.frozen? ⟨tb, 4, none⟩ = false := frozen_of_block XT9.out 4
  go_upto_region 6 with (fail)
  have XT10 := hide (show (w9.setCell ⟨tb, 4, none⟩ (.int .i64 am)).heap[tb]? = some (.cells #[.int .i64 0, .int .u8 (k : Int), .int .i64 (s : Int), .int .i64 (r : Int), .int .i64 am, .int .i64 0, .bool false, .slice none 0 0] 35 (0, 0)) from block_setCell XT9.out 4 (.int .i64 am))
  have XR10 := hide ((block_setCell_other HNE.out.2.2.symm 4 (.int .i64 am)).trans XR9.out)
  have Q10 := hide (Q9.out.other HNE.out.1 4 (.int .i64 am))
  have ON10 := hide (ON9.out.new HTB.out 4 (.int .i64 am))
  clear ct ft XT9 XR9 Q9 ON9
  generalize w9.setCell ⟨tb, 4, none⟩ (.int .i64 am) = w10 at *
  go_wp2_with fail
  refine (HN5.out _ Q10.out).mono ?_
  rintro e w11 ⟨rfl, hq, ho⟩
  have Q11 := hide hq
  have XT11 := hide ((ho.block _ (heap_lt XT10.out) HNE.out.1).trans XT10.out)
  have XR11 := hide ((ho.block _ (heap_lt XR10.out) HNE.out.2.1).trans XR10.out)
  have ON11 := hide (ON10.out.trans ho)
  clear hq ho Q10 XT10 XR10 ON10 HN5
  have ct : w11.cell? ⟨tb, 5, none⟩ = some (.int .i64 0) := cell_of_block XT11.out 5
  have ft : w11.frozen? ⟨tb, 5, none⟩ = false := frozen_of_block XT11.out 5
  go_upto_region 7 with (fail)
  have XT12 := hide (show (w11.setCell ⟨tb, 5, none⟩ (.int .i64 le)).heap[tb]? = some (.cells #[.int .i64 0, .int .u8 (k : Int), .int .i64 (s : Int), .int .i64 (r : Int), .int .i64 am, .int .i64 le, .bool false, .slice none 0 0] 35 (0, 0)) from block_setCell XT11.out 5 (.int .i64 le))
  have XR12 := hide ((block_setCell_other HNE.out.2.2.symm 5 (.int .i64 le)).trans XR11.out)
  have Q12 := hide (Q11.out.other HNE.out.1 5 (.int .i64 le))
  have ON12 := hide (ON11.out.new HTB.out 5 (.int .i64 le))
  clear ct ft XT11 XR11 Q11 ON11
  generalize w11.setCell ⟨tb, 5, none⟩ (.int .i64 le) = w12 at *
  go_wp2_with fail
  refine (HN6.out _ Q12.out).mono ?_
  rintro e w13 ⟨rfl, hq, ho⟩
  have Q13 := hide hq
  have XT13 := hide ((ho.block _ (heap_lt XT12.out) HNE.out.1).trans XT12.out)
  have XR13 := hide ((ho.block _ (heap_lt XR12.out) HNE.out.2.1).trans XR12.out)
  have ON13 := hide (ON12.out.trans ho)
  clear hq ho Q12 XT12 XR12 ON12 HN6
  obtain ⟨vb, hvb⟩ : ∃ b, ((v : Int) == 1) = b := ⟨_, rfl⟩
  have HVB := hide hvb
  have ct : w13.cell? ⟨tb, 6, none⟩ = some (.bool false) := cell_of_block XT13.out 6
  have ft : w13.frozen? ⟨tb, 6, none⟩ = false := frozen_of_block XT13.out 6
  go_upto_region 9 with (fail)
  have XT14 := hide (show (w13.setCell ⟨tb, 6, none⟩ (.bool vb)).heap[tb]? = some (.cells #[.int .i64 0, .int .u8 (k : Int), .int .i64 (s : Int), .int .i64 (r : Int), .int .i64 am, .int .i64 le, .bool vb, .slice none 0 0] 35 (0, 0)) from block_setCell XT13.out 6 (.bool vb))
  have XR14 := hide ((block_setCell_other HNE.out.2.2.symm 6 (.bool vb)).trans XR13.out)
  have Q14 := hide (Q13.out.other HNE.out.1 6 (.bool vb))
  have ON14 := hide (ON13.out.new HTB.out 6 (.bool vb))
  clear ct ft XT13 XR13 Q13 ON13
  generalize w13.setCell ⟨tb, 6, none⟩ (.bool vb) = w14 at *
  clear hvb hk1 hs1 hs2 hr1 hr2
  go_wp2_with fail
  refine (HPO.out _ Q14.out).mono ?_
  rintro e w15 ⟨a, c, rfl, hln, ⟨ok', l', hq, hpq⟩, ho⟩
  have XT15 := hide ((ho.block _ (heap_lt XT14.out) HNE.out.1).trans XT14.out)
  have XR15 := hide ((ho.block _ (heap_lt XR14.out) HNE.out.2.1).trans XR14.out)
  have HLN := hide hln
  have Q15 := hide hq
  have HPQ := hide hpq
  have ON15 := hide (ON14.out.trans ho)
  have HSZ := hide (show w.heap.size ≤ w14.heap.size from ON14.out.size)
  have HTL14 := hide (show tb < w14.heap.size from heap_lt XT14.out)
  clear hln hq hpq ho XT14 XR14 Q14 ON14 HPO
  obtain ⟨LL, hLL⟩ : ∃ L, poL o6 l6 = L := ⟨_, rfl⟩
  rw [hLL] at HLK HLN ⊢
  have HLL := hide hLL
  clear hLL
  have HST0 := hide (show ∀ (b : Nat) (cc : Array Value) (fz : Nat × Nat), w14.heap.size ≤ b → w15.heap[b]? = some (.cells cc 80 fz) → (w15.setCell ⟨tb, 7, none⟩ (.slice a LL.length c)).heap[b]? = some (.cells cc 80 fz) from fun b cc fz h1 h2 => (block_setCell_other (by have := HTL14.out; omega) 7 _).trans h2)
  have ct : w15.cell? ⟨tb, 7, none⟩ = some (.slice none 0 0) := cell_of_block XT15.out 7
  have ft : w15.frozen? ⟨tb, 7, none⟩ = false := frozen_of_block XT15.out 7
  go_upto_region 11 with (fail)
  have XT16 := hide (show (w15.setCell ⟨tb, 7, none⟩ (.slice a LL.length c)).heap[tb]? = some (.cells #[.int .i64 0, .int .u8 (k : Int), .int .i64 (s : Int), .int .i64 (r : Int), .int .i64 am, .int .i64 le, .bool vb, .slice a LL.length c] 35 (0, 0)) from block_setCell XT15.out 7 (.slice a LL.length c))
  have XR16 := hide ((block_setCell_other HNE.out.2.2.symm 7 (.slice a LL.length c)).trans XR15.out)
  have Q16 := hide (Q15.out.other HNE.out.1 7 (.slice a LL.length c))
  have ON16 := hide (ON15.out.new HTB.out 7 (.slice a LL.length c))
  clear ct ft XT15 XR15 Q15 ON15
  generalize w15.setCell ⟨tb, 7, none⟩ (.slice a LL.length c) = w16 at *
  have HLN2 := hide (show LnTy 80 w14.heap.size w16 a LL from fun i hi => by
    obtain ⟨b, off, cc, fz, h1, h2, h3, h4⟩ := HLN.out i hi
    exact ⟨b, off, cc, fz, h1, h2, HST0.out b cc fz h2 h3, h4⟩)
  generalize w14.heap.size = z14 at *
  obtain ⟨xx, hxx⟩ : ∃ x : TxA, x = ⟨⟨0, (k : Int), (s : Int), (r : Int), am, le, vb, LL⟩, a, c⟩ := ⟨_, rfl⟩
  have HRI := hide (fun W hW => slright_any ⟨⟨0, (k : Int), (s : Int), (r : Int), am, le, vb, LL⟩, a, c⟩ ⟨by show inR 0; unfold inR; omega, by have := HNUM.out; show 0 ≤ (k : Int) ∧ (k : Int) ≤ 255; omega, by have := HNUM.out; show inR (s : Int); unfold inR; omega, by have := HNUM.out; show inR (r : Int); unfold inR; omega, HIN.out.1, HIN.out.2, by have := HLK.out.1; show LL.length ≤ 1000; omega, HLK.out.2⟩ W hW)
  have HSE := hide (fun W => settled_any ⟨⟨0, (k : Int), (s : Int), (r : Int), am, le, vb, LL⟩, a, c⟩ W)
  unfold txV txC at HRI HSE
  dsimp only at HRI HSE
  clear hxx xx
  have HBADX := hide (show o6 = false → ¬ (ok = true ∧ txG l = true) from fun h hh => HNO.out h ⟨hh.1, (txG_parts hh.2).1⟩)
  have HROW := hide (show o6 = true → v ≤ 1 → txR l = ⟨0, (k : Int), (s : Int), (r : Int), am, le, vb, LL⟩ from fun h h1 => by
    obtain ⟨h2, h3, h4, h5, h6⟩ := HYES.out h
    rw [h6, ← HLL.out, h, h5]
    congr 1
    rw [← HVB.out]
    by_cases hv : v = 1
    · subst hv; rfl
    · rw [decide_eq_false hv]
      exact (beq_eq_false_iff_ne.mpr (by omega)).symm)
  clear hk hs hr
  by_cases hpo : poOk o6 l6 = true
  · have hpe : poE o6 l6 = 0 := by unfold poE; rw [if_pos hpo]
    rw [hpe]
    have ho6 : o6 = true := by
      unfold poOk at hpo
      simp only [Bool.and_eq_true] at hpo
      exact hpo.1
    have HQQ := hide (show RQ w16 p true (l6.drop (1 + 10 * (l6.getD 0 0).toNat)) from by
      obtain ⟨e1, e2⟩ := HPQ.out hpo
      rw [← e1, ← e2]
      exact Q16.out)
    have HPO2 := hide hpo
    have HO6 := hide ho6
    clear hpe hpo ho6 HPQ Q16 HBADX
    by_cases hv2 : v ≤ 1
    · have HV2 := hide hv2
      have hv3 : ¬ (1 : Int) < (v : Int) := by omega
      have hv4 : ¬ 1 < v := by omega
      have HROW2 := hide (HROW.out HO6.out hv2)
      clear HROW hv hv2
      rcases hrt : rightT ⟨0, (k : Int), (s : Int), (r : Int), am, le, vb, LL⟩ with _ | _
      · have HRT := hide hrt
        rw [hrt] at HRI
        clear hrt
        as_aux_lemma =>
          go_wp2_with (refine wpList_rowLoadG2 (by kernel_rfl) 35 (.tmp 4) rfl tb rfl 35 #[.int .i64 0, .int .u8 (k : Int), .int .i64 (s : Int), .int .i64 (r : Int), .int .i64 am, .int .i64 le, .bool vb, .slice a LL.length c] (0, 0) _ XT16.out Try.underlying35 rfl (by kernel_rfl) ?_)
          refine (HRI.out _ HLN2.out.lnIn).mono ?_
          rintro e w17 ⟨rfl, hb⟩
          have XRF := hide ((hb.block _ (heap_lt XR16.out)).trans XR16.out)
          have ONF := hide (ON16.out.trans (Only.of_below hb))
          clear hb
          go_wp2_with (refine rw_store rfl 35 (.tmp 2) (.tmp 54) rfl rb rfl #[.int .i64 0, .int .u8 0, .int .i64 0, .int .i64 0, .int .i64 0, .int .i64 0, .bool false, .slice none 0 0] rfl _ XRF.out (by kernel_rfl) rfl (by simp [Value.oneCell']) ?_)
          have XF := hide (setRow_same (cs := (#[.int .i64 0, .int .u8 0, .int .i64 0, .int .i64 0, .int .i64 0, .int .i64 0, .bool false, .slice none 0 0] : Array Value)) XRF.out)
          have OF := hide (ONF.out.newRow HRB.out (#[.int .i64 0, .int .u8 0, .int .i64 0, .int .i64 0, .int .i64 0, .int .i64 0, .bool false, .slice none 0 0] : Array Value))
          (try simp only [Exit.inBlock, Exit.then])
          refine bodyPost_ret (res_ct (P := Try.prog) rfl _ _ rb 35 #[.int .i64 0, .int .u8 0, .int .i64 0, .int .i64 0, .int .i64 0, .int .i64 0, .bool false, .slice none 0 0] (0, 0) _ rfl XF.out Try.underlying35 rfl (by kernel_rfl)) rfl ?_
          exact .inr ⟨(fun hh => by have h1 := (txG_parts hh.2).2.2.2.1; rw [HROW2.out, HRT.out] at h1; cases h1), rfl, OF.out⟩
      · have HRT := hide hrt
        rw [hrt] at HRI
        clear hrt
        rcases hst : setT ⟨0, (k : Int), (s : Int), (r : Int), am, le, vb, LL⟩ with _ | _
        · have HSX := hide hst
          rw [hst] at HSE
          clear hst
          as_aux_lemma =>
            go_wp2_with (refine wpList_rowLoadG2 (by kernel_rfl) 35 (.tmp 4) rfl tb rfl 35 #[.int .i64 0, .int .u8 (k : Int), .int .i64 (s : Int), .int .i64 (r : Int), .int .i64 am, .int .i64 le, .bool vb, .slice a LL.length c] (0, 0) _ XT16.out Try.underlying35 rfl (by kernel_rfl) ?_)
            refine (HRI.out _ HLN2.out.lnIn).mono ?_
            rintro e w17 ⟨rfl, hb⟩
            have XR17 := hide ((hb.block _ (heap_lt XR16.out)).trans XR16.out)
            have XT17 := hide ((hb.block _ (heap_lt XT16.out)).trans XT16.out)
            have ON17 := hide (ON16.out.trans (Only.of_below hb))
            clear hb
            go_wp2_with (refine wpList_rowLoadG2 (by kernel_rfl) 35 (.tmp 4) rfl tb rfl 35 #[.int .i64 0, .int .u8 (k : Int), .int .i64 (s : Int), .int .i64 (r : Int), .int .i64 am, .int .i64 le, .bool vb, .slice a LL.length c] (0, 0) _ XT17.out Try.underlying35 rfl (by kernel_rfl) ?_)
            refine (HSE.out _).mono ?_
            rintro e w18 ⟨rfl, hb⟩
            have XRF := hide ((hb.block _ (heap_lt XR17.out)).trans XR17.out)
            have ONF := hide (ON17.out.trans (Only.of_below hb))
            clear hb
            go_wp2_with (refine rw_store rfl 35 (.tmp 2) (.tmp 54) rfl rb rfl #[.int .i64 0, .int .u8 0, .int .i64 0, .int .i64 0, .int .i64 0, .int .i64 0, .bool false, .slice none 0 0] rfl _ XRF.out (by kernel_rfl) rfl (by simp [Value.oneCell']) ?_)
            have XF := hide (setRow_same (cs := (#[.int .i64 0, .int .u8 0, .int .i64 0, .int .i64 0, .int .i64 0, .int .i64 0, .bool false, .slice none 0 0] : Array Value)) XRF.out)
            have OF := hide (ONF.out.newRow HRB.out (#[.int .i64 0, .int .u8 0, .int .i64 0, .int .i64 0, .int .i64 0, .int .i64 0, .bool false, .slice none 0 0] : Array Value))
            (try simp only [Exit.inBlock, Exit.then])
            refine bodyPost_ret (res_ct (P := Try.prog) rfl _ _ rb 35 #[.int .i64 0, .int .u8 0, .int .i64 0, .int .i64 0, .int .i64 0, .int .i64 0, .bool false, .slice none 0 0] (0, 0) _ rfl XF.out Try.underlying35 rfl (by kernel_rfl)) rfl ?_
            exact .inr ⟨(fun hh => by have h1 := (txG_parts hh.2).2.2.2.2; rw [HROW2.out, HSX.out] at h1; cases h1), rfl, OF.out⟩
        · have HSX := hide hst
          rw [hst] at HSE
          clear hst
          as_aux_lemma =>
            go_wp2_with (refine wpList_rowLoadG2 (by kernel_rfl) 35 (.tmp 4) rfl tb rfl 35 #[.int .i64 0, .int .u8 (k : Int), .int .i64 (s : Int), .int .i64 (r : Int), .int .i64 am, .int .i64 le, .bool vb, .slice a LL.length c] (0, 0) _ XT16.out Try.underlying35 rfl (by kernel_rfl) ?_)
            refine (HRI.out _ HLN2.out.lnIn).mono ?_
            rintro e w17 ⟨rfl, hb⟩
            have XR17 := hide ((hb.block _ (heap_lt XR16.out)).trans XR16.out)
            have XT17 := hide ((hb.block _ (heap_lt XT16.out)).trans XT16.out)
            have ON17 := hide (ON16.out.trans (Only.of_below hb))
            have HLN17 := hide (HLN2.out.below hb)
            have Q17 := hide (HQQ.out.below hb)
            clear hb
            go_wp2_with (refine wpList_rowLoadG2 (by kernel_rfl) 35 (.tmp 4) rfl tb rfl 35 #[.int .i64 0, .int .u8 (k : Int), .int .i64 (s : Int), .int .i64 (r : Int), .int .i64 am, .int .i64 le, .bool vb, .slice a LL.length c] (0, 0) _ XT17.out Try.underlying35 rfl (by kernel_rfl) ?_)
            refine (HSE.out _).mono ?_
            rintro e w18 ⟨rfl, hb⟩
            have XR18 := hide ((hb.block _ (heap_lt XR17.out)).trans XR17.out)
            have XT18 := hide ((hb.block _ (heap_lt XT17.out)).trans XT17.out)
            have ON18 := hide (ON17.out.trans (Only.of_below hb))
            have HLN18 := hide (HLN17.out.below hb)
            have Q18 := hide (Q17.out.below hb)
            clear hb
            go_wp2_with (first | (refine rw_load rfl 35 (.tmp 4) rfl tb rfl 35 #[.int .i64 0, .int .u8 (k : Int), .int .i64 (s : Int), .int .i64 (r : Int), .int .i64 am, .int .i64 le, .bool vb, .slice a LL.length c] (0, 0) _ XT18.out Try.underlying35 rfl (by kernel_rfl) ?_) | (refine rw_store rfl 35 (.tmp 2) (.tmp 55) rfl rb rfl #[.int .i64 0, .int .u8 (k : Int), .int .i64 (s : Int), .int .i64 (r : Int), .int .i64 am, .int .i64 le, .bool vb, .slice a LL.length c] rfl _ XR18.out (by kernel_rfl) rfl (by simp [Value.oneCell']) ?_))
            have XF := hide (setRow_same (cs := (#[.int .i64 0, .int .u8 (k : Int), .int .i64 (s : Int), .int .i64 (r : Int), .int .i64 am, .int .i64 le, .bool vb, .slice a LL.length c] : Array Value)) XR18.out)
            have OF := hide (ON18.out.newRow HRB.out (#[.int .i64 0, .int .u8 (k : Int), .int .i64 (s : Int), .int .i64 (r : Int), .int .i64 am, .int .i64 le, .bool vb, .slice a LL.length c] : Array Value))
            have HLF := hide (HLN18.out.keepsT (setRow_keeps (Ts := [35]) XR18.out (by decide) (#[.int .i64 0, .int .u8 (k : Int), .int .i64 (s : Int), .int .i64 (r : Int), .int .i64 am, .int .i64 le, .bool vb, .slice a LL.length c] : Array Value)) (by decide))
            have QF := hide (Q18.out.only (setRow_only w18 rb (#[.int .i64 0, .int .u8 (k : Int), .int .i64 (s : Int), .int .i64 (r : Int), .int .i64 am, .int .i64 le, .bool vb, .slice a LL.length c] : Array Value)) HNE.out.2.1.symm)
            (try simp only [Exit.inBlock, Exit.then])
            refine bodyPost_ret (res_ct (P := Try.prog) rfl _ _ rb 35 #[.int .i64 0, .int .u8 (k : Int), .int .i64 (s : Int), .int .i64 (r : Int), .int .i64 am, .int .i64 le, .bool vb, .slice a LL.length c] (0, 0) _ rfl XF.out Try.underlying35 rfl (by kernel_rfl)) rfl ?_
            obtain ⟨q1, q2, q3, q4, q5⟩ := HYES.out HO6.out
            have hg : txG l = true := by
              unfold txG
              rw [HROW2.out, HRT.out, HSX.out, decide_eq_true q2, ← q3, decide_eq_true HV2.out, ← q4]
              have := HPO2.out
              rw [HO6.out] at this
              rw [this]; rfl
            refine .inl ⟨a, c, ⟨q1, hg⟩, ?_, ?_, ?_, OF.out⟩
            · rw [HROW2.out]; rfl
            · rw [HROW2.out]; exact HLF.out.mono HSZ.out
            · have e9 : txRest l = l6.drop (1 + 10 * (l6.getD 0 0).toNat) := by
                unfold txRest
                rw [q4, List.drop_drop]
                congr 1
                omega
              rw [e9]; exact QF.out
    · have hv3 : (1 : Int) < (v : Int) := by omega
      have hv4 : 1 < v := by omega
      have HWHY := hide (show ¬ (ok = true ∧ txG l = true) from fun hh => by
        have h1 := (HYES.out HO6.out).2.2.1
        have h2 := (txG_parts hh.2).2.1
        omega)
      have XRF := hide XR16.out
      have ONF := hide ON16.out
      clear HROW hv hv2
      as_aux_lemma =>
        go_wp2_with (refine rw_store rfl 35 (.tmp 2) (.tmp 54) rfl rb rfl #[.int .i64 0, .int .u8 0, .int .i64 0, .int .i64 0, .int .i64 0, .int .i64 0, .bool false, .slice none 0 0] rfl _ XRF.out (by kernel_rfl) rfl (by simp [Value.oneCell']) ?_)
        have XF := hide (setRow_same (cs := (#[.int .i64 0, .int .u8 0, .int .i64 0, .int .i64 0, .int .i64 0, .int .i64 0, .bool false, .slice none 0 0] : Array Value)) XRF.out)
        have OF := hide (ONF.out.newRow HRB.out (#[.int .i64 0, .int .u8 0, .int .i64 0, .int .i64 0, .int .i64 0, .int .i64 0, .bool false, .slice none 0 0] : Array Value))
        (try simp only [Exit.inBlock, Exit.then])
        refine bodyPost_ret (res_ct (P := Try.prog) rfl _ _ rb 35 #[.int .i64 0, .int .u8 0, .int .i64 0, .int .i64 0, .int .i64 0, .int .i64 0, .bool false, .slice none 0 0] (0, 0) _ rfl XF.out Try.underlying35 rfl (by kernel_rfl)) rfl ?_
        exact .inr ⟨(HWHY.out), rfl, OF.out⟩
  · have hpe : poE o6 l6 = 4 := by unfold poE; rw [if_neg hpo]
    rw [hpe]
    have HWHY := hide (show ¬ (ok = true ∧ txG l = true) from fun hh => by
      cases ho6 : o6 with
      | false => exact HBADX.out ho6 hh
      | true =>
        have h1 := (HYES.out ho6).2.2.2.1
        have h2 := (txG_parts hh.2).2.2.1
        rw [ho6, h1] at hpo
        exact hpo h2)
    have XRF := hide XR16.out
    have ONF := hide ON16.out
    clear hpe hpo HROW hv
    as_aux_lemma =>
      go_wp2_with (refine rw_store rfl 35 (.tmp 2) (.tmp 54) rfl rb rfl #[.int .i64 0, .int .u8 0, .int .i64 0, .int .i64 0, .int .i64 0, .int .i64 0, .bool false, .slice none 0 0] rfl _ XRF.out (by kernel_rfl) rfl (by simp [Value.oneCell']) ?_)
      have XF := hide (setRow_same (cs := (#[.int .i64 0, .int .u8 0, .int .i64 0, .int .i64 0, .int .i64 0, .int .i64 0, .bool false, .slice none 0 0] : Array Value)) XRF.out)
      have OF := hide (ONF.out.newRow HRB.out (#[.int .i64 0, .int .u8 0, .int .i64 0, .int .i64 0, .int .i64 0, .int .i64 0, .bool false, .slice none 0 0] : Array Value))
      (try simp only [Exit.inBlock, Exit.then])
      refine bodyPost_ret (res_ct (P := Try.prog) rfl _ _ rb 35 #[.int .i64 0, .int .u8 0, .int .i64 0, .int .i64 0, .int .i64 0, .int .i64 0, .bool false, .slice none 0 0] (0, 0) _ rfl XF.out Try.underlying35 rfl (by kernel_rfl)) rfl ?_
      exact .inr ⟨(HWHY.out), rfl, OF.out⟩
end Go.Proofs.Ytbnbfnlfgmlcgaa
