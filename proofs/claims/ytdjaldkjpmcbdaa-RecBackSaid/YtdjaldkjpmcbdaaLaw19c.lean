/-
  Layer 19: RecBack.
-/
import Derived.Test.YtdjaldkjpmcbdaaMRecB
import Derived.Deep.CutRange
namespace Go.Proofs.Ytdjaldkjpmcbdaa
set_option linter.unusedSimpArgs false
set_option linter.unusedVariables false
open Go.RowKit Go.WideShapes Go.ChangeShapes Go.ChangeAt

theorem Keyed_int : Go.Maps.Keyed Try.prog 3 := Go.Maps.int_keyed Try.underlying3
theorem zero_int (w : World) : (zeroValue 3).run Try.prog w = .ok (.int .i64 0) w := by kernel_rfl
theorem key_int {a : Int} (h0 : -9223372036854775808 ≤ a) (h1 : a ≤ 9223372036854775807) : keyOf Try.prog 3 (.int .i64 a) = some (.int .i64 a) := Go.Maps.keyOf_int_mk Try.underlying3 (WalkArith.wf_i64 ⟨h0, h1⟩)
/-- 'm[k] = v' of a map that is written out -/
theorem wpList_mapInsert {P : Program} (w : World) {ops : Array Oper} {rest : List Oper} {o : Oper} {a : Act} {Q : Exit → Act → World → Prop}
    (hg : o.guard = none) (m x v : Operand) (t : TypeId) (hop : o.op = Op.insert t m x v)
    (k e : TypeId) (K : Maps.Keyed P k) (ht : P.underlying t = some (.map k e)) (b n c : Nat) (f : Lit → Option Value)
    (hm : a.eval m = .map (some b)) (hown : MapIs w P k b n c f) (hn : n < maxLen) (key val : Value) (kl : Lit) (hx : a.eval x = key) (hv : a.eval v = val) (hkey : keyOf P k key = some kl) (hk : WideAt.IsKeyLit kl)
    (hK : ∀ w', MapIs w' P k b (n + 1) (if (f kl).isSome then c else c + 1) (fun l => if l.sameKey kl = true then some val else f l) → w.grownBy w' (some b) → wpList P ops Q rest (a.put o.dst undef) w') :
    wpList P ops Q (o :: rest) a w := by
  refine wpList_plain hg fun K' hK' => ?_
  obtain ⟨w', hrun, r1, r2⟩ := hown.store K ht hn val hkey hk
  unfold Oper.wp
  simp [execOp, hop, hm, hx, hv, hrun, Result.andThen]
  exact hK' _ _ (hK w' r1 r2)
theorem tabAt_grown {w w' : World} {pb : Nat} {b : Option Nat} (h : TabAt w pb 0) (hg : w.grownBy w' b) (hn : ∀ j, b = some j → ¬ j = pb) : TabAt w' pb 0 := fun k hk => by
  have h1 := h k hk
  have hl := tabAt_lt h
  have hb := hg.block pb hl (fun e => hn pb e.symm rfl)
  rw [← h1]
  simp only [World.cell?, hb]
theorem owns_grown {w w' : World} {B e n m : Nat} {v : Value} {xs : List Value} {q : Nat} (h : w.ownsRow B e m v n xs) (hg : w.grownBy w' (some q)) (hq : q < B) : w'.ownsRow B e m v n xs :=
  h.kept hg (Or.inr fun e => by have := (h.lt q e).1; omega)
/-- what stands in memory while the records are made -/
structure RB (w W : World) (pb mb : Nat) (xs : List Value) (j jm cm : Nat) (a : Option Addr) (c : Nat) (f : Lit → Option Value) : Prop where
  own : W.ownsRow (mb + 1) 38 2 (.slice a j c) j xs
  map : MapIs W Try.prog 3 mb (jm + 1) cm f
  tab : TabAt W pb 0
  below : Below w.heap.size w W
  big : mb + 1 ≤ W.heap.size
theorem RB.kept {w W W' : World} {pb mb : Nat} {xs : List Value} {j jm cm : Nat} {a : Option Addr} {c : Nat} {f : Lit → Option Value} (h : RB w W pb mb xs j jm cm a c f) (hb : Below W.heap.size W W') : RB w W' pb mb xs j jm cm a c f :=
  ⟨owns_below h.own hb, h.map.below hb, tabAt_kept h.tab hb, below_trans h.below hb, Nat.le_trans h.big hb.size⟩
theorem RB.alloc {w W : World} {pb mb : Nat} {xs : List Value} {j jm cm : Nat} {a : Option Addr} {c : Nat} {f : Lit → Option Value} (h : RB w W pb mb xs j jm cm a c f) (o : Obj) : RB w (W.alloc o) pb mb xs j jm cm a c f :=
  h.kept ((Below.refl _ _).alloc (Nat.le_refl _) o)
theorem RB.drew {w W : World} {pb mb : Nat} {xs : List Value} {j jm cm : Nat} {a : Option Addr} {c : Nat} {f : Lit → Option Value} (h : RB w W pb mb xs j jm cm a c f) : RB w W.drew pb mb xs j jm cm a c f :=
  h.kept ((Below.refl _ _).drew)
set_option maxRecDepth 100000 in
set_option maxHeartbeats 1000000 in
theorem recBack_walk (v : Value) (ct : Int) (ct0 : 0 ≤ ct) (ct1 : ct ≤ 65535) (w : World) (hv : RecsV w v) :
    Calls Try.prog 5 #[v, .int .u16 ct] w fun e w' => e = .returned (.bool true) ∧ Below w.heap.size w w' := by
  obtain ⟨L, a, cap, rfl, hcap, hmax, hin⟩ := hv
  obtain ⟨i0, hi, hz0, hz1, hz2⟩ := info_parts (show (Try.prog.info? 38).map (fun i => (i.zero, i.size, i.bytes)) = some (some (.agg #[.int .u8 0, .string ⟨#[]⟩]), 2, 24) by kernel_rfl)
  have HI := hide hi
  have HZ0 := hide hz0
  have HZ1 := hide hz1
  have HZ2 := hide hz2
  have HIN := hide hin
  obtain ⟨n, hn⟩ : ∃ n : Nat, min L.length 6 = n := ⟨_, rfl⟩
  have hn1 : n ≤ L.length := by omega
  have hn2 : n ≤ 6 := by omega
  have hmI : (min (L.length : Int) 6) = (n : Int) := by omega
  have hcI : (n : Int) ≤ (cap : Int) := by omega
  have HAL := hide (xL_length L)
  rw [hn] at HAL
  have HAR := hide (xL_right L)
  have HAT := hide (show ∀ j, j < n → (xL L).getD j rc0 = xR (L.getD j rc0) from fun j h => xL_at L j (by omega))
  have z := (zero_of_info tab_zero).1
  have hsz := tabC_size 256
  have hst := tab_store
  have HMK := hide (fun W => make_any W)
  have hmm := @run_makeMap Try.prog
  clear hin hi hz0 hz1 hz2
  generalize xL L = A at *
  go_enter Try.func5, Try.ntmps5
  go_wp2_with fail
  refine (HMK.out _).mono ?_
  rintro e w1 ⟨rfl, hb1⟩
  have HT2 := hide (tabAt_new w1)
  have HB2 := hide (hb1.alloc hb1.size (.cells (tabC 256) 25))
  clear hb1
  go_upto_region 3 with (fail)
  generalize w1.alloc (.cells (tabC 256) 25) = w2 at *
  generalize w1.heap.size = pb at *
  have HM3 := hide (MapIs.made w2 Try.prog 3)
  have HT3 := hide (tabAt_kept HT2.out ((Below.refl w2.heap.size w2).alloc (Nat.le_refl _) (.map #[] 0)))
  have HB3 := hide (HB2.out.alloc HB2.out.size (.map #[] 0))
  have hpm := tabAt_lt HT2.out
  have hwm := HB2.out.size
  clear HT2 HB2
  go_wp2_with (first | (refine wpList_mapInsert _ rfl _ _ _ 52 rfl 3 3 Keyed_int Try.underlying52 w2.heap.size 0 0 (fun _ => none) rfl HM3.out (by unfold maxLen; omega) (.int .i64 0) (.int .i64 0) (.int .i64 0) rfl rfl (key_int (by omega) (by omega)) trivial ?_; intro w3 hm3 hg3; have HM4 := hide hm3; have HT4 := hide (tabAt_grown HT3.out hg3 (fun j e => by simp at e; omega)); have HB4 := hide (Below.grown HB3.out hg3 HB3.out.size (fun j e => by simp at e; omega)); have hs3 := hg3.size; clear hm3 hg3))
  have HRB0 := hide (show RB w w3 pb w2.heap.size [] 0 0 1 none 0 (endF A 0) from ⟨World.ownsRow_nil _ _ _ _, HM4.out, HT4.out, HB4.out, by simpa using hs3⟩)
  have HN := hide (show 0 = 0 → min L.length 6 = n from fun _ => hn)
  clear hn hmI hcI HM3 HT3 HB3 HM4 HT4 HB4 hs3 hmm
  generalize w2.heap.size = mb at *
  go_loopw [6, 8, 31] (fun x y i W => ∃ (j c cm : Nat) (a : Option Addr), j ≤ n ∧ i = .int .i64 j ∧ x = .slice a j c ∧ y = .int .i64 (szN A j : Int) ∧ RB w W pb mb ((A.take j).flatMap rcC) j j cm a c (endF A j)) (fun _ _ i _ => n - (intOf i).toNat)
  case atStart => exact ⟨0, 0, 1, none, by omega, rfl, rfl, by rw [szN_zero]; rfl, HRB0.out⟩
  case round =>
    clear HRB0
    obtain ⟨j, c, cm, a1, hj, rfl, rfl, rfl, hrb⟩ := hrel
    have HRB := hide hrb
    clear hrb
    have hszj : szN A j ≤ j * 2055 := by
      have h := frameL_le (A.take j) (fun r hr => HAR.out r (List.mem_of_mem_take hr))
      have h2 : (A.take j).length = j := by rw [List.length_take, HAL.out]; omega
      rw [h2] at h
      exact h
    by_cases hlt : j < n
    · obtain ⟨b, off, rfl, hbw, q0, q1⟩ := HIN.out j (by omega)
      have d0 := (HRB.out.below.cell (p := ⟨b, off + j * 2, none⟩) hbw).trans q0
      have d1 := (HRB.out.below.cell (p := ⟨b, off + j * 2 + 1, none⟩) hbw).trans q1
      have HXJ := hide (HAT.out j hlt)
      have HTK := hide (takeR_next A j (by rw [HAL.out]; exact hlt))
      have HSN := hide (szN_next A j (by rw [HAL.out]; exact hlt))
      rw [HXJ.out] at HTK HSN
      clear q0 q1 HXJ
      have hkx := xR_kind (L.getD j rc0)
      have hk1 := (L.getD j rc0).1.toNat_lt
      have HRT := hide (xR_right (L.getD j rc0))
      have hxl : (xR (L.getD j rc0)).2 = (L.getD j rc0).2.take 300 := rfl
      have HSZ := hide (fun W => rec_size (xR (L.getD j rc0)) (by rw [hxl, List.length_take]; omega) W)
      rw [HRT.out, if_pos rfl] at HSZ
      have HRC := hide (show rcC (xR (L.getD j rc0)) = [.int .u8 ((xR (L.getD j rc0)).1.toNat : Int), .string (bs (xR (L.getD j rc0)).2)] from rfl)
      have hxl3 : (xR (L.getD j rc0)).2.length ≤ 300 := by rw [hxl, List.length_take]; omega
      obtain ⟨m, hm⟩ : ∃ m : Nat, min (L.getD j rc0).2.length 300 = m := ⟨_, rfl⟩
      have hcut : (bs (L.getD j rc0).2).extract 0 m = bs (xR (L.getD j rc0)).2 := by
        rw [hxl, bs_to, ← hm]
        congr 1
        rcases Nat.le_total (L.getD j rc0).2.length 300 with h1 | h1
        · rw [Nat.min_eq_left h1, List.take_of_length_le (Nat.le_refl _), List.take_of_length_le h1]
        · rw [Nat.min_eq_right h1]
      have hmI : min ((bs (L.getD j rc0).2).size : Int) 300 = (m : Int) := by rw [bs_size]; omega
      have hm2 : (m : Int) ≤ ((bs (L.getD j rc0).2).size : Int) := by rw [bs_size]; omega
      have hk2 : ((L.getD j rc0).1.toNat : Int) ≤ 255 := by omega
      have hk0 : (0 : Int) ≤ ((L.getD j rc0).1.toNat : Int) := by omega
      have hkx' := hkx.symm
      have hkm : (0 : Int) ≤ ((L.getD j rc0).1.toNat : Int) % 255 := by omega
      have hkm2 : ((L.getD j rc0).1.toNat : Int) % 255 ≤ 254 := by omega
      clear hm hkx hk1 hxl
      generalize (xR (L.getD j rc0)) = x at *
      have hlc : ((7 + x.2.length : Nat) : Int) = 7 + (x.2.length : Int) := by omega
      rw [hlc] at HSZ
      have HSN2 := hide (show ((szN A (j + 1) : Nat) : Int) = (szN A j : Int) + (7 + (x.2.length : Int)) by rw [HSN.out]; omega)
      have hb3 : (x.2.length : Int) ≤ 300 := by omega
      have hszI : (szN A j : Int) ≤ 12330 := by omega
      clear hlc
      generalize bs (L.getD j rc0).2 = S at *
      generalize ((L.getD j rc0).1.toNat : Int) = ki at *
      generalize bs x.2 = s at *
      have HRB1 := hide (HRB.out.alloc (.cells #[.int .u8 ki, .string S] 53))
      generalize hkxx : (x.1.toNat : Int) = kx at *
      have LTA := hide (fun q (h : (Value.slice a1 j c).ownBlock = some q) => HRB.out.own.lt q h)
      have hmbw := HRB.out.big
      have hsz1 : (wr.alloc (.cells #[.int .u8 ki, .string S] 53)).heap.size = wr.heap.size + 1 := by simp
      go_upto_region 8 with (fail)
      have HRB2 := hide (HRB1.out.alloc (.cells #[.int .u8 kx, .string s] 38)).drew
      have HR2 := hide (show ((wr.alloc (.cells #[.int .u8 ki, .string S] 53)).alloc (.cells #[.int .u8 kx, .string s] 38)).drew.heap[(wr.alloc (.cells #[.int .u8 ki, .string S] 53)).heap.size]? = _ from heap_new (wr.alloc (.cells #[.int .u8 ki, .string S] 53)) (.cells #[.int .u8 kx, .string s] 38))
      rw [hsz1] at HR2
      go_region
      clear hsz1 HRB1 HRB d0 d1 hcut hmI hm2 hkx' hk2 hk0 hkm hkm2
      have hrb : wr.heap.size ≤ wr.heap.size + 1 := by omega
      generalize ((wr.alloc (.cells #[.int .u8 ki, .string S] 53)).alloc (.cells #[.int .u8 kx, .string s] 38)).drew = w4 at *
      generalize wr.heap.size + 1 = rb at *
      generalize hxs : (A.take j).flatMap rcC = xs at *
      have HXS := hide hxs
      clear hxs
      have HRB3 := hide (HRB2.out.alloc (.cells #[.int .u8 kx, .string s] 38))
      have HR3 := hide ((heap_old w4 (.cells #[.int .u8 kx, .string s] 38) rb (heap_lt HR2.out)).trans HR2.out)
      have HNEW := hide (rec_row w4 kx s 38)
      have e0 := (cell_of_block HR2.out 0).trans (show _ = some (Value.int .u8 kx) from rfl)
      have e1 := (cell_of_block HR2.out 1).trans (show _ = some (Value.string s) from rfl)
      clear HR2 HRB2
      go_wp2_with (at_builtin; refine wpList_append_own _ rfl _ _ 27 rfl (mb + 1) 38 i0 (.agg #[.int .u8 0, .string ⟨#[]⟩]) 2 24 Try.underlying27 HI.out HZ0.out HZ1.out HZ2.out rfl (by decide) (.slice a1 j c) j xs rfl HRB3.out.own ⟨w4.heap.size, 0, none⟩ 1 1 [.int .u8 kx, .string s] rfl rfl HNEW.out (one2 _ _) (by unfold maxLen; omega) (by omega) HRB3.out.big ?_; intro v' w5 ho hgr hnil; obtain ⟨a3, c3, rfl⟩ := owns_slice_n ho; have HRB4 := hide (show RB w w5 pb mb (xs ++ [.int .u8 kx, .string s]) (j + 1) j cm a3 c3 (endF A j) from ⟨ho, HRB3.out.map.kept (hgr.block mb HRB3.out.map.lt (fun e => by have := (LTA.out _ e.symm).1; omega)), tabAt_grown HRB3.out.tab hgr (fun q e => by have := (LTA.out _ e).1; omega), HRB3.out.below.grown hgr HRB3.out.below.size (fun q e => by have := (LTA.out _ e).1; omega), Nat.le_trans HRB3.out.big hgr.size⟩); have hR4 := keep_high hgr (fun q e => (LTA.out _ e).2) hrb HR3.out; have e2 := (cell_of_block hR4 0).trans (show _ = some (Value.int .u8 kx) from rfl); have e3 := (cell_of_block hR4 1).trans (show _ = some (Value.string s) from rfl); clear ho hgr hnil hR4 e0 e1)
      clear HRB3 HR3 HNEW LTA
      refine (HSZ.out _).mono ?_
      rintro e w6 ⟨rfl, hb6⟩
      have HRB6 := hide (HRB4.out.kept hb6)
      clear hb6 HRB4 e2 e3 HSZ
      have HEF := hide (show (fun l : Lit => if l.sameKey (.int .i64 ((szN A j : Int) + (7 + (x.2.length : Int)))) = true then some (Value.int .i64 ((j : Int) + 1)) else endF A j l) = endF A (j + 1) by
        funext l
        simp only [endF]
        rw [HSN2.out])
      go_wp2_with (at_mapUpdate; refine wpList_mapStore _ rfl _ _ _ 52 rfl 3 3 Keyed_int Try.underlying52 mb (j + 1) cm (endF A j) rfl HRB6.out.map (by unfold maxLen; omega) (.int .i64 ((szN A j : Int) + (7 + (x.2.length : Int)))) (.int .i64 ((j : Int) + 1)) (.int .i64 ((szN A j : Int) + (7 + (x.2.length : Int)))) rfl rfl (key_int (by omega) (by omega)) trivial ?_; intro w7 hm7 hg7; rw [HEF.out] at hm7; obtain ⟨cq, hm7⟩ : ∃ cq, MapIs w7 Try.prog 3 mb (j + 1 + 1) cq (endF A (j + 1)) := ⟨_, hm7⟩; have HRB7 := hide (show RB w w7 pb mb (xs ++ [.int .u8 kx, .string s]) (j + 1) (j + 1) cq a3 c3 (endF A (j + 1)) from ⟨owns_grown HRB6.out.own hg7 (by omega), hm7, tabAt_grown HRB6.out.tab hg7 (fun q e => by simp at e; omega), HRB6.out.below.grown hg7 HRB6.out.below.size (fun q e => by simp at e; omega), Nat.le_trans HRB6.out.big hg7.size⟩); clear hm7 hg7)
      go_roundw
      case rel =>
        refine ⟨j + 1, c3, cq, a3, by omega, by go_num, rfl, by rw [HSN2.out], ?_⟩
        rw [HTK.out, List.flatMap_append, HXS.out, List.flatMap_singleton, HRC.out]
        exact HRB7.out
      case measure => simp [intOf]; omega
    · obtain rfl : j = n := by omega
      have hal := HAL.out
      have hta : A.take j = A := List.take_of_length_le (Nat.le_of_eq hal)
      have hown := HRB.out.own
      rw [hta] at hown
      subst hal
      have hra := recs_of_owns hown
      have HRA := hide hra
      have HMM := hide HRB.out.map
      have HTT := hide HRB.out.tab
      have HBB := hide HRB.out.below
      have hall : A.all rightR = true := by rw [List.all_eq_true]; exact HAR.out
      have hfl := frameL_le A HAR.out
      have HFRA := hide (fun W ht h => frame_any pb 0 a1 c A (by omega) (fun r hr => by have := HAR.out r hr; simp only [rightR, Bool.and_eq_true, decide_eq_true_eq] at this; omega) W ht h)
      rw [(fr_yes hall).1, (fr_yes hall).2] at HFRA
      have HPAR := hide (fun W ht => recParse_any pb 0 (frameL A) (by omega) W ht)
      have hpa := parseP_frame A [] HAR.out
      rw [List.append_nil, parseP_nil] at hpa
      have hpa2 : parseP (frameL A) = .ok A := by rw [hpa]; simp [Except.map]
      rw [hpa2] at HPAR
      have hss : ((bs (frameL A)).size : Int) = (szN A A.length : Int) := by rw [bs_size, szN_all]
      have hsz2 : szN A A.length ≤ 12330 := by rw [szN_all]; omega
      obtain ⟨k, hk⟩ : ∃ k : Nat, ct.toNat % (szN A A.length + 1) = k := ⟨_, rfl⟩
      have hkl : k ≤ szN A A.length := by
        have := Nat.mod_lt ct.toNat (show 0 < szN A A.length + 1 by omega)
        omega
      have hkm : ct % ((szN A A.length : Int) + 1) = (k : Int) := by
        rw [← hk, Int.natCast_emod]
        congr 1
        omega
      have hkt : ct.tmod ((szN A A.length : Int) + 1) = (k : Int) := by rw [Int.tmod_eq_emod_of_nonneg ct0]; exact hkm
      have HPC := hide (fun W ht => recParse_any pb 0 ((frameL A).take k) (by rw [List.length_take]; omega) W ht)
      have hcut := parse_cut A HAR.out k (by rw [← szN_all]; exact hkl)
      have hext : (bs (frameL A)).extract 0 k = bs ((frameL A).take k) := bs_to _ _
      have HCUT := hide hcut
      have HEXT := hide hext
      have HHIT := hide (fun i (h : i ≤ A.length) => endF_hit A i (A.length - i) (by omega))
      have HMISS := hide (fun h => endF_miss A k A.length h)
      have hq0 : ¬ ((szN A A.length : Int) + 1 = 0) := by omega
      have hqk : (k : Int) ≤ (szN A A.length : Int) := by omega
      have hqI : (szN A A.length : Int) ≤ 12330 := by omega
      clear hra hown hta hall hfl hpa hpa2 hk hcut hext hkl hsz2 hszj HRB HAT HI HZ0 HZ1 HZ2
      generalize bs ((frameL A).take k) = SK at *
      generalize bs (frameL A) = S at *
      generalize szN A A.length = q at *
      go_wp2_with fail
      refine (HFRA.out _ HTT.out HRA.out).mono ?_
      rintro e w4 ⟨rfl, hb4⟩
      have HRA4 := hide (HRA.out.below hb4)
      have HMM4 := hide (HMM.out.below hb4)
      have HTT4 := hide (tabAt_kept HTT.out hb4)
      have HBB4 := hide (below_trans HBB.out hb4)
      clear hb4 HRA HMM HTT HBB HFRA
      go_wp2_with fail
      refine (HPAR.out _ HTT4.out).mono ?_
      rintro e w5 ⟨L2, a2, c2, er, rfl, hcase, hin2, hb5⟩
      obtain ⟨rfl, rfl⟩ : A = L2 ∧ er = 0 := by
        rcases hcase with ⟨h1, h2⟩ | ⟨h1, -⟩
        · simp only [Except.ok.injEq] at h1; exact ⟨h1, h2⟩
        · cases h1
      have HIN5 := hide hin2
      have HRA5 := hide (HRA4.out.below hb5)
      have HMM5 := hide (HMM4.out.below hb5)
      have HTT5 := hide (tabAt_kept HTT4.out hb5)
      have HBB5 := hide (below_trans HBB4.out hb5)
      clear hb5 hcase hin2 HRA4 HMM4 HTT4 HBB4 HPAR
      go_wp2_with fail
      refine (wakes19 _).mono ?_
      rintro e w6 ⟨rfl, hb6⟩
      have HIN6 := hide (HIN5.out.below hb6)
      have HRA6 := hide (HRA5.out.below hb6)
      have HMM6 := hide (HMM5.out.below hb6)
      have HTT6 := hide (tabAt_kept HTT5.out hb6)
      have HBB6 := hide (below_trans HBB5.out hb6)
      clear hb6 HRA5 HMM5 HTT5 HBB5 HIN5
      go_wp2_with fail
      go_loopw [96] (fun i W => ∃ t : Nat, t ≤ A.length ∧ i = .int .i64 t ∧ RecsIn W a2 A ∧ RecsIn W a1 A ∧ MapIs W Try.prog 3 mb (A.length + 1) cm (endF A A.length) ∧ TabAt W pb 0 ∧ Below w.heap.size w W) (fun i _ => A.length - (intOf i).toNat)
      case atStart => exact ⟨0, by omega, rfl, HIN6.out, HRA6.out, HMM6.out, HTT6.out, HBB6.out⟩
      case round =>
        clear HIN6 HRA6 HMM6 HTT6 HBB6
        obtain ⟨t, ht, rfl, h1, h2, h3, h4, h5⟩ := hrel
        have HIN6 := hide h1
        have HRA6 := hide h2
        have HMM6 := hide h3
        have HTT6 := hide h4
        have HBB6 := hide h5
        clear h1 h2 h3 h4 h5
        by_cases htl : t < A.length
        · obtain ⟨g1, o1, rfl, -, p1, p2⟩ := HIN6.out t htl
          obtain ⟨g2, o2, rfl, -, p3, p4⟩ := HRA6.out t htl
          have htI : (t : Int) < (A.length : Int) := by omega
          generalize ((A.getD t rc0).1.toNat : Int) = u1 at *
          generalize bs (A.getD t rc0).2 = u2 at *
          go_wp2_with fail
          go_quiet (fail)
          go_wp2_with fail
          go_roundw
          case rel => exact ⟨t + 1, by omega, by go_num, HIN6.out.drewN _, HRA6.out.drewN _, HMM6.out.kept rfl, tabAt_drewN HTT6.out _, below_drewN' HBB6.out _⟩
          case measure => simp [intOf]; omega
        · obtain rfl : t = A.length := by omega
          clear HIN6 HRA6
          go_wp2_with fail
          (try rw [HEXT.out])
          refine (HPC.out _ HTT6.out).mono ?_
          rintro e w7 ⟨L3, a3, c3, er, rfl, hcase, -, hb7⟩
          have HMM7 := hide (HMM6.out.below hb7)
          have HBB7 := hide (below_trans HBB6.out hb7)
          have hlk := HMM7.out.look_ok Keyed_int Try.underlying52 (zero_int _) (key_int (a := (k : Int)) (by omega) (by omega)) trivial
          clear hb7 HMM6 HBB6 HTT6 HPC
          rcases HCUT.out with ⟨i, hi1, hi2, hi3⟩ | ⟨hi1, hi3⟩
          · have hf := HHIT.out i hi1
            rw [show i + (A.length - i) = A.length by omega, ← hi2] at hf
            rw [hf] at hlk
            obtain ⟨rfl, rfl⟩ : L3 = A.take i ∧ er = 0 := by
              rw [hi3] at hcase
              rcases hcase with ⟨h1, h2⟩ | ⟨h1, -⟩
              · simp only [Except.ok.injEq] at h1; exact ⟨h1.symm, h2⟩
              · cases h1
            have hli : (A.take i).length = i := by rw [List.length_take]; omega
            rw [hli]
            clear hcase hi2 hi3 hf hli HCUT HHIT HMISS
            simp only [Option.getD_some, Option.isSome_some] at hlk
            go_wp2_with fail
            go_ret
            exact ⟨rfl, HBB7.out⟩
          · have hf := HMISS.out hi1
            rw [hf] at hlk
            obtain ⟨rfl, rfl⟩ : L3 = [] ∧ er = 4 := by
              rw [hi3] at hcase
              rcases hcase with ⟨h1, h2⟩ | ⟨h1, h2, h3⟩
              · cases h1
              · simp only [Except.error.injEq] at h1; exact ⟨h3, h1.symm⟩
            clear hcase hi1 hi3 hf HCUT HHIT HMISS
            simp only [Option.getD_none, Option.isSome_none] at hlk
            go_wp2_with fail
            go_ret
            exact ⟨rfl, HBB7.out⟩

set_option maxRecDepth 100000 in
theorem recBack_lifted (os : Os) (started : os.Started) (H : Type) (enc : TypeId × Value → H) :
    ReturnsInHanded {} Try.checked os 5 .any (Rows.recBackSpec.pre6 enc Try.prog Try.f5 Rows.recBackRow.domain false) (Rows.recBackSpec.post enc Try.prog Try.f5 false true false false) := by
  refine returnsInHanded_of_change (C := Try.checked) own started (by kernel_rfl) Try.func5
    (ChangeSpec.witness6 (enc := enc) (C := Try.checked) false ⟨#[], #[.slice none 0 0, .int .u16 0], []⟩ 8 (by kernel_rfl) (by kernel_rfl) (by kernel_rfl) (by kernel_rfl)) ?_
  intro W base args ds gs before hval0 hW _ _
  have hval : ∀ (j : Nat) t v, Try.f5.params[j]? = some t → args[j]? = some v → Value.okWide Try.prog W .any base t v := hval0
  have hW' := hW
  obtain ⟨p, q, hA0, hV, rfl, hfz, hnd⟩ := hW
  have hA : DataW.TrodAll enc Try.prog W 0 (fun _ => true) true Try.f5.params.toList args.toList ds p := hA0
  rw [Try.params5] at hA hval
  obtain ⟨v0, vs0, d0, ds0, p0, q0, hargs, rfl, rfl, h0, r0⟩ := trodAll_cons hA
  obtain ⟨v1, vs1, d1, ds1, p1, q1, rfl, rfl, rfl, h1, r1⟩ := trodAll_cons r0
  obtain ⟨rfl, rfl, rfl⟩ := trodAll_nil r1
  obtain rfl : args = #[v0, v1] := by cases args; simp_all
  obtain ⟨rfl, rfl⟩ := trodVars_none hV
  have z0 := open_recs (hval 0 22 v0 rfl rfl) h0
  obtain ⟨t, rfl, rfl, rfl, w1⟩ := open_int Try.underlying42 (hval 1 42 v1 rfl rfl) h1
  have z1 := wf_u16 w1
  clear hA0 hval0
  refine (recBack_walk v0 t z1.1 z1.2 W z0).mono fun e W' ⟨he, hb⟩ => ?_
  subst he
  exact ⟨_, rfl, post_law laidOut (of_decide_eq_true (by kernel_rfl)) rfl rfl Try.underlying4 hW' ⟨rfl, rfl, rfl⟩ hb⟩

/-- THE STATEMENT -/
theorem recBack_holds : Rows.RecBackSaid :=
  OpenClaim.holds_of_wide 5 Try.f5 rfl rfl rfl rfl rfl rfl rfl ⟨rfl, rfl, rfl, rfl, rfl⟩ rfl rfl rfl rfl rfl (by kernel_rfl) Try.func5 (by kernel_rfl)
    (of_decide_eq_true (by kernel_rfl)) (by unfold Func.isWrapper; first | (rw [if_pos (by decide +kernel)]; kernel_rfl) | (rw [if_neg (by decide +kernel)]; exact ⟨rfl, rfl⟩))
    (fun os started H enc _ => recBack_lifted os started H enc)

end Go.Proofs.Ytdjaldkjpmcbdaa
