/-
  Layer 25: the program's Read.
-/
import Derived.Test.YtbnbfnlfgmlcgaaSaleR
import Derived.Test.YtbnbfnlfgmlcgaaSale2
import Derived.Test.YtbnbfnlfgmlcgaaKitW
import Derived.Deep.Cut
--import Derived.Test.Zdbg
namespace Go.Proofs.Ytbnbfnlfgmlcgaa
set_option linter.unusedSimpArgs false
set_option linter.unusedVariables false
open Go.RowKit Go.WideShapes Go.ChangeShapes Go.ChangeAt Go.Deep
theorem eight_cells {w : World} {b : Nat} {a0 a1 a2 a3 a4 a5 a6 a7 : Value} {t : TypeId} (h : w.heap[b]? = some (.cells #[a0, a1, a2, a3, a4, a5, a6, a7] t (0, 0))) :
    w.cell? ⟨b, 0, none⟩ = some a0 ∧ w.cell? ⟨b, 1, none⟩ = some a1 ∧ w.cell? ⟨b, 2, none⟩ = some a2 ∧ w.cell? ⟨b, 3, none⟩ = some a3 ∧ w.cell? ⟨b, 4, none⟩ = some a4 ∧ w.cell? ⟨b, 5, none⟩ = some a5 ∧ w.cell? ⟨b, 6, none⟩ = some a6 ∧ w.cell? ⟨b, 7, none⟩ = some a7 :=
  ⟨cell_of_block h 0, cell_of_block h 1, cell_of_block h 2, cell_of_block h 3, cell_of_block h 4, cell_of_block h 5, cell_of_block h 6, cell_of_block h 7⟩
theorem eight_at {w : World} {b : Nat} {a0 a1 a2 a3 a4 a5 a6 a7 : Value} {t : TypeId} (h : w.heap[b]? = some (.cells #[a0, a1, a2, a3, a4, a5, a6, a7] t (0, 0))) : ∀ (j : Nat) (u : Value), [a0, a1, a2, a3, a4, a5, a6, a7][j]? = some u → w.cell? ((⟨b, 0, none⟩ : Addr).add j) = some u := fun j u hu => by
  rw [Go.WideShapes.add_plain, cell_of_block h, ← hu]
  simp
theorem flat_snoc8 (L : List TxA) (x : TxA) : (L ++ [x]).flatMap txC = L.flatMap txC ++ txC x := by simp
theorem setCell_keepsP {w : World} {g : Nat} {c : Array Value} {t : TypeId} {fz : Nat × Nat} (h : w.heap[g]? = some (.cells c t fz)) (j : Nat) (v : Value) : KeepsT [t] w (w.setCell ⟨g, j, none⟩ v) := fun k o hk hn => by
  by_cases e : g = k
  · subst e
    rw [h] at hk
    exact absurd (List.mem_singleton.2 rfl) (hn _ _ _ (Option.some.inj hk).symm)
  · exact (block_setCell_other e j v).trans hk
theorem RQ.keepsT {Ts : List TypeId} {W W' : World} {p : Nat} {ok : Bool} {l : List UInt8} (h : RQ W p ok l) (hk : KeepsT Ts W W') (ht : 98 ∉ Ts) : RQ W' p ok l := by
  obtain ⟨s, h1, h2⟩ := h
  exact ⟨s, ⟨hk.cells h1.row ht⟩, h2⟩
theorem RQ.drew {W : World} {p : Nat} {ok : Bool} {l : List UInt8} (h : RQ W p ok l) : RQ W.drew p ok l := by
  obtain ⟨s, h1, h2⟩ := h
  exact ⟨s, ⟨h1.row⟩, h2⟩
theorem hx_no0 {kp : Int} {x n : Nat} (h : (x : Int) < 1) : ¬ hxOk kp x n := fun hh => by obtain ⟨z1, z2, z3, z4⟩ := hh; omega
theorem hx_no1 {kp : Int} {x n : Nat} (h : (x : Int) > 4294967296) : ¬ hxOk kp x n := fun hh => by obtain ⟨z1, z2, z3, z4⟩ := hh; omega
theorem hx_no2 {kp : Int} {x n : Nat} (h : (n : Int) > kp) : ¬ hxOk kp x n := fun hh => by obtain ⟨z1, z2, z3, z4⟩ := hh; omega
theorem hx_no3 {kp : Int} {x n : Nat} (h : (n : Int) > (x : Int) - 1) : ¬ hxOk kp x n := fun hh => by obtain ⟨z1, z2, z3, z4⟩ := hh; omega
theorem hx_yes {kp : Int} {x n : Nat} (q0 : ¬ (x : Int) < 1) (q1 : ¬ (x : Int) > 4294967296) (q2 : ¬ (n : Int) > kp) (q3 : ¬ (n : Int) > (x : Int) - 1) : hxOk kp x n := ⟨by omega, by omega, by omega, by omega⟩
theorem hx_all (kp : Int) (t : List UInt8) : ∃ (x n : Nat) (k1 k2 : Bool) (l1 l2 : List UInt8), x = vN true t 5 ∧ k1 = (true && decide (5 ≤ t.length)) ∧ l1 = t.drop 5 ∧ n = vN k1 l1 2 ∧ k2 = (k1 && decide (2 ≤ l1.length)) ∧ l2 = l1.drop 2 ∧ x = hdX t ∧ x < 1099511627776 ∧ n < 65536 ∧
    (k2 = true → hxOk kp x n → regR kp t = rdX n ((x : Int) - (n : Int)) l2 []) ∧ (k2 = false → regR kp t = none) ∧ (¬ hxOk kp x n → regR kp t = none) ∧ (k2 = true → n = hdC t) := by
  refine ⟨_, _, _, _, _, _, rfl, rfl, rfl, rfl, rfl, rfl, rfl, vN_lt _ _ _, vN_lt _ _ _, ?_⟩
  by_cases h : 7 ≤ t.length
  · have e1 : decide (5 ≤ t.length) = true := decide_eq_true (by omega)
    have e2 : decide (2 ≤ (t.drop 5).length) = true := decide_eq_true (by rw [List.length_drop]; omega)
    rw [e1, e2]
    simp only [Bool.and_self, List.drop_drop, Nat.reduceAdd]
    exact ⟨fun _ hc => if_pos ⟨h, hc⟩, (fun hf => by cases hf), (fun hn => if_neg (fun hh => hn hh.2)), fun _ => rfl⟩
  · have e : (true && decide (5 ≤ t.length) && decide (2 ≤ (t.drop 5).length)) = false := by
      simp
      omega
    rw [e]
    have hn : regR kp t = none := if_neg (fun hh => h hh.1)
    exact ⟨(fun hf => by cases hf), fun _ => hn, fun _ => hn, (fun hf => by cases hf)⟩
theorem sx_nums (x n : Nat) (hx : x < 1099511627776) (hn : n < 65536) : IntKind.i64.wrap (x : Int) = (x : Int) ∧ wrap64 (x : Int) = (x : Int) ∧ IntKind.i64.wrap (n : Int) = (n : Int) ∧ wrap64 (n : Int) = (n : Int) ∧ IntKind.i64.wrap ((x : Int) - 1) = (x : Int) - 1 ∧ wrap64 ((x : Int) - 1) = (x : Int) - 1 ∧ IntKind.i64.wrap ((x : Int) - (n : Int)) = (x : Int) - (n : Int) ∧ wrap64 ((x : Int) - (n : Int)) = (x : Int) - (n : Int) := by
  simp only [IntKind.wrap_i64]
  unfold wrap64
  refine ⟨?_, ?_, ?_, ?_, ?_, ?_, ?_, ?_⟩ <;> omega
theorem sx_at (x n k : Nat) (hx : x < 1099511627776) (hn : n < 65536) (hk : k < n) : IntKind.i64.wrap ((x : Int) - (n : Int) + (k : Int)) = (x : Int) - (n : Int) + (k : Int) ∧ wrap64 ((x : Int) - (n : Int) + (k : Int)) = (x : Int) - (n : Int) + (k : Int) ∧ IntKind.i64.wrap ((k : Int) + 1) = (k : Int) + 1 := by
  simp only [IntKind.wrap_i64]
  unfold wrap64
  refine ⟨?_, ?_, ?_⟩ <;> omega
theorem owns_lonely8 {w w' : World} {B hd k : Nat} {v : Value} {xs : List Value} {ok : Bool} {l : List UInt8} (h : w.ownsRow B 35 8 v k xs) (hq : RQ w hd ok l) (ho : Only hd w w') : w'.ownsRow B 35 8 v k xs := by
  refine owns_onlyP h ho (fun hg => ?_)
  obtain ⟨c', fz', hc⟩ := Go.Lib.ownsRow_kind h hd hg
  obtain ⟨s', q1, -⟩ := hq
  rw [q1.row] at hc
  simp only [Option.some.injEq, Obj.cells.injEq] at hc
  exact absurd hc.2.1 (by decide)
theorem lines_lonely {w w' : World} {B hd : Nat} {a : Option Addr} {L : List LnM} {ok : Bool} {l : List UInt8} (h : LnTy 80 B w a L) (hq : RQ w hd ok l) (ho : Only hd w w') : LnTy 80 B w' a L := fun i hi => by
  obtain ⟨b, off, c, fz, h1, h2, h3, h4⟩ := h i hi
  refine ⟨b, off, c, fz, h1, h2, (ho.block b (heap_lt h3) (fun e => ?_)).trans h3, h4⟩
  subst e
  obtain ⟨s', q1, -⟩ := hq
  rw [q1.row] at h3
  simp only [Option.some.injEq, Obj.cells.injEq] at h3
  exact absurd h3.2.1 (by decide)
theorem sub_next {m k : Nat} (h : k < m) : m - k = (m - (k + 1)) + 1 := by omega
theorem LnTy.lnT {B : Nat} {w : World} {a : Option Addr} {L : List LnM} (h : LnTy 80 B w a L) : LnT w a L := fun i hi => by
  obtain ⟨b, off, c, fz, h1, -, h2⟩ := h i hi
  exact ⟨b, off, c, fz, h1, h2⟩
def SlRdIs (kp : Int) (r : Nat) (t : List UInt8) (w : World) (e : Ending) (w' : World) : Prop :=
  (regR kp t = none ∧ e = .returned (.tuple #[.pointer none, .int .i64 4]) ∧ Only r w w') ∨ ∃ (T : List TxA) (rest : List UInt8) (p : Nat) (v : Value), regR kp t = some (T.map (·.t), rest) ∧ e = .returned (.tuple #[.pointer (some ⟨p, 0, none⟩), .int .i64 0]) ∧ RegAt w' w.heap.size p kp (hdX t : Int) v T ∧ RQ w' r true rest ∧ Only r w w'
set_option maxRecDepth 100000 in
set_option maxHeartbeats 8000000 in
theorem slread_any (kp : Int) (hkp : 1 ≤ kp ∧ kp ≤ 512) (r : Nat) (t : List UInt8) (w : World) (h : RQ w r true t) :
    Calls Try.prog 11 #[.pointer (some ⟨r, 0, none⟩), .int .i64 kp] w (SlRdIs kp r t w) := by
  obtain ⟨i0, hi, hz0, hz1, hz2⟩ := info_parts (show (Try.prog.info? 35).map (fun i => (i.zero, i.size, i.bytes)) = some (some (.agg #[.int .i64 0, .int .u8 0, .int .i64 0, .int .i64 0, .int .i64 0, .int .i64 0, .bool false, .slice none 0 0]), 8, 80) by kernel_rfl)
  have HI := hide hi
  have HZ0 := hide hz0
  have HZ1 := hide hz1
  have HZ2 := hide hz2
  clear hi hz0 hz1 hz2
  obtain ⟨s0, hrd, hs0, hz⟩ := h
  have hs := hs0 rfl
  subst hs
  rw [show (!true) = false from rfl] at hrd
  have R0 := hide hrd
  have HLT := hide (heap_lt hrd.row)
  have HZ := hide hz
  have HKP := hide hkp
  have HNEW := hide (fun W => slnew_ok kp hkp.1 hkp.2 W)
  clear hs0 hz hrd
  go_enter Try.func11, Try.ntmps11
  go_wp2_with fail
  refine (HNEW.out _).mono ?_
  rintro e w1 ⟨p, rfl, hS, hb⟩
  have NA := hide (show w1.heap[p]? = some (.cells #[.int .i64 kp, .int .i64 1, .slice none 0 0] 101 (0, 0)) from hS.head)
  have HPB := hide hS.low
  have R1 := hide (R0.out.below hb)
  have B1 := hide hb
  have R00 := hide R0.out
  clear hS hb HNEW hkp R0
  go_wp2_with fail
  refine (wrong_any r (bs t) false w1 R1.out).mono ?_
  rintro e w2 ⟨rfl, rfl⟩
  obtain ⟨e0, e1, g0, g1⟩ := R1.out.cells
  have hal := (Below.refl w1.heap.size w1).alloc (Nat.le_refl _) (.cells #[.string (bs t), .bool false] 98)
  have Q1 := hide (show RQ (w1.alloc (.cells #[.string (bs t), .bool false] 98)) w1.heap.size true t from ⟨bs t, RdAt.new w1 (bs t), fun _ => rfl, HZ.out⟩)
  have NB := hide ((hal.block _ (heap_lt NA.out)).trans NA.out)
  have B2 := hide (B1.out.trans (hal.mono B1.out.size))
  have HPH := hide (show w1.heap.size ≠ p from by have := heap_lt NA.out; omega)
  have HHB := hide (show w.heap.size ≤ w1.heap.size from B1.out.size)
  clear hal
  go_upto_region 7 with (fail)
  generalize w1.alloc (.cells #[.string (bs t), .bool false] 98) = w2 at *
  obtain ⟨hd, hh⟩ : ∃ k, w1.heap.size = k := ⟨_, rfl⟩
  rw [hh] at Q1 HPH HHB ⊢
  clear hh e0 e1 g0 g1 NA B1
  obtain ⟨x, n, k1, k2, l1, l2, ex, ek1, el1, en, ek2, el2, ehx, hx, hn, hyes, hno2, hno, hnc⟩ := hx_all kp t
  have HN1 := hide (fun W h => rq_number hd true t 5 (by decide) (by decide) W h)
  have HN2 := hide (fun W h => rq_number hd k1 l1 2 (by decide) (by decide) W h)
  unfold RNIs at HN1 HN2
  rw [← ex, ← ek1, ← el1] at HN1
  rw [← en, ← ek2, ← el2] at HN2
  have HYES := hide hyes
  have HNO2 := hide hno2
  have HNO := hide hno
  have HEX := hide ehx
  have HNC := hide hnc
  have HXN := hide (show x < 1099511627776 ∧ n < 65536 from ⟨hx, hn⟩)
  clear ex ek1 el1 en ek2 el2 hyes hno2 hno ehx hnc
  obtain ⟨hx1, hx2, hn1, hn2, hs1, hs2, hs3, hs4⟩ := sx_nums x n hx hn
  clear hx hn
  go_wp2_with fail
  refine (HN1.out _ Q1.out).mono ?_
  rintro e w3 ⟨rfl, hq, ho⟩
  have NB3 := hide ((ho.block _ (heap_lt NB.out) HPH.out.symm).trans NB.out)
  have Q3 := hide hq
  have B3 := hide (ho.below B2.out HHB.out B2.out.size)
  clear hq ho NB Q1 B2 HN1
  have c1 : w3.cell? ⟨p, 1, none⟩ = some (.int .i64 1) := cell_of_block NB3.out 1
  have f1 : w3.frozen? ⟨p, 1, none⟩ = false := frozen_of_block NB3.out 1
  go_upto_region 8 with (fail)
  have NC := hide (show (w3.setCell ⟨p, 1, none⟩ (.int .i64 (x : Int))).heap[p]? = some (.cells #[.int .i64 kp, .int .i64 (x : Int), .slice none 0 0] 101 (0, 0)) from block_setCell NB3.out 1 (.int .i64 (x : Int)))
  have Q4 := hide (Q3.out.other HPH.out.symm 1 (.int .i64 (x : Int)))
  have B4 := hide (B3.out.setCell (p := ⟨p, 1, none⟩) HPB.out (.int .i64 (x : Int)))
  clear c1 f1 NB3 Q3 B3
  generalize w3.setCell ⟨p, 1, none⟩ (.int .i64 (x : Int)) = w4 at *
  go_wp2_with fail
  refine (HN2.out _ Q4.out).mono ?_
  rintro e w6 ⟨rfl, hq, ho⟩
  have N6 := hide ((ho.block _ (heap_lt NC.out) HPH.out.symm).trans NC.out)
  have Q6 := hide hq
  have B6 := hide (ho.below B4.out HHB.out B4.out.size)
  clear hq ho NC Q4 B4 HN2
  have c1 : w6.cell? ⟨p, 1, none⟩ = some (.int .i64 (x : Int)) := cell_of_block N6.out 1
  by_cases q0 : (x : Int) < 1
  · have g0 : decide ((x : Int) < 1) = true := decide_eq_true q0
    have HNN := hide (HNO.out (hx_no0 q0))
    clear q0 HNO HYES
    go_wp2_with fail
    go_ret2
    exact .inl ⟨HNN.out, rfl, .of_below B6.out⟩
  have g0 : decide ((x : Int) < 1) = false := decide_eq_false q0
  by_cases q1 : (x : Int) > 4294967296
  · have g1 : decide ((x : Int) > 4294967296) = true := decide_eq_true q1
    have HNN := hide (HNO.out (hx_no1 q1))
    clear q0 q1 HNO HYES
    go_wp2_with fail
    go_ret2
    exact .inl ⟨HNN.out, rfl, .of_below B6.out⟩
  have g1 : decide ((x : Int) > 4294967296) = false := decide_eq_false q1
  by_cases q2 : (n : Int) > kp
  · have g2 : decide ((n : Int) > kp) = true := decide_eq_true q2
    have HNN := hide (HNO.out (hx_no2 q2))
    clear q0 q1 q2 HNO HYES
    go_wp2_with fail
    go_ret2
    exact .inl ⟨HNN.out, rfl, .of_below B6.out⟩
  have g2 : decide ((n : Int) > kp) = false := decide_eq_false q2
  by_cases q3 : (n : Int) > (x : Int) - 1
  · have g3 : decide ((n : Int) > (x : Int) - 1) = true := decide_eq_true q3
    have HNN := hide (HNO.out (hx_no3 q3))
    clear q0 q1 q2 q3 HNO HYES
    go_wp2_with fail
    go_ret2
    exact .inl ⟨HNN.out, rfl, .of_below B6.out⟩
  have g3 : decide ((n : Int) > (x : Int) - 1) = false := decide_eq_false q3
  have hok := hx_yes q0 q1 q2 q3
  have HY2 := hide (fun h => HYES.out h hok)
  have HOK := hide hok
  clear HYES HNO hok q0 q1 q2 q3
  go_wp2_with fail
  clear c1 hx1 hx2 hn1 hn2 hs1 hs2 g0 g1 g2 g3
  have HS34 := hide (And.intro hs3 hs4)
  clear hs3 hs4
  go_loopw [60] (fun i W => ∃ (k : Nat) (T : List TxA) (a : Option Addr) (cp : Nat) (ok : Bool) (l : List UInt8), k ≤ n ∧ i = .int .i64 k ∧ T.length = k ∧ W.heap[p]? = some (.cells #[.int .i64 kp, .int .i64 (x : Int), .slice a k cp] 101 (0, 0)) ∧ W.ownsRow w.heap.size 35 8 (.slice a k cp) k (T.flatMap txC) ∧ (∀ y ∈ T, LnTy 80 w.heap.size W y.la y.t.L) ∧ RQ W hd ok l ∧ (ok = true → regR kp t = rdX (n - k) ((x : Int) - (n : Int) + (k : Int)) l (T.map (·.t))) ∧ (ok = false → regR kp t = none) ∧ Below w.heap.size w W) (fun i _ => n - (Go.RowKit.intOf i).toNat)
  case atStart => exact ⟨0, [], none, 0, k2, l2, by omega, rfl, rfl, N6.out, World.ownsRow_nil _ _ _ _, (fun y hy => by cases hy), Q6.out, (fun h => by rw [HY2.out h]; congr 1; omega), HNO2.out, B6.out⟩
  case round =>
    obtain ⟨k, T, a, cp, ok, l, hk, rfl, hML, hN, hO, hLS, hq, hy, hno, hb⟩ := hrel
    have NM := hide hN
    have OM := hide hO
    have LSM := hide hLS
    have QM := hide hq
    have BM := hide hb
    have HYM := hide hy
    have HNM := hide hno
    have HML := hide hML
    clear hN hO hLS hq hb hy hno hML N6 Q6 B6 HY2 HNO2
    by_cases hlt : k < n
    · have HLTM := hide hlt
      have HK5 := hide (show k ≤ 65536 from by have := HXN.out.2; omega)
      have HRT := hide (fun W h => readTx_any hd ok l W h)
      unfold RTxIs at HRT
      obtain ⟨ha1, ha2, hbd⟩ := sx_at x n k HXN.out.1 HXN.out.2 hlt
      obtain ⟨hs3, hs4⟩ := HS34.out
      have HSN := hide (sub_next hlt)
      go_wp2_with fail
      refine (HRT.out _ QM.out).mono ?_
      rintro e w5 hcs
      rcases hcs with ⟨a9, c9, hgo, rfl, hln, hq, ho⟩ | ⟨hbad, rfl, ho⟩
      · have N5 := hide ((ho.block _ (heap_lt NM.out) HPH.out.symm).trans NM.out)
        have O5 := hide (owns_lonely8 OM.out QM.out ho)
        have LS5 := hide (fun y hy => lines_lonely (LSM.out y hy) QM.out ho)
        have LA5 := hide hln
        have Q5 := hide hq
        have B5 := hide (ho.below BM.out HHB.out BM.out.size)
        have HSB := hide (show w.heap.size ≤ wr.heap.size from BM.out.size)
        have HYN0 := hide (show regR kp t = rdX (n - (k + 1)) ((x : Int) - (n : Int) + (k : Int) + 1) (txRest l) (T.map (·.t) ++ [{ txR l with num := (x : Int) - (n : Int) + (k : Int) }]) from by
          rw [HYM.out hgo.1, HSN.out, rdX_yes hgo.2])
        clear hln hq ho NM OM LSM QM BM HRT hgo HYM HNM HSN
        unfold txV txC
        dsimp only
        obtain ⟨T9, hT⟩ : ∃ T9, txR l = T9 := ⟨_, rfl⟩
        rw [hT] at HYN0 LA5 ⊢
        obtain ⟨nz, k9, s9, r9, am9, le9, vb9, L9⟩ := T9
        dsimp only at *
        have HYN := hide (show regR kp t = rdX (n - (k + 1)) ((x : Int) - (n : Int) + ((k + 1 : Nat) : Int)) (txRest l) ((T ++ [(TxA.mk (TxM.mk ((x : Int) - (n : Int) + (k : Int)) k9 s9 r9 am9 le9 vb9 L9) a9 c9)]).map (·.t)) from by
          rw [HYN0.out, List.map_append, show (x : Int) - (n : Int) + ((k + 1 : Nat) : Int) = (x : Int) - (n : Int) + (k : Int) + 1 from by omega]
          rfl)
        clear HYN0 hT
        generalize txRest l = l9 at *
        go_upto_region 17 with (refine rw_store rfl 35 (.tmp 11) (.tmp 65) rfl w5.heap.size rfl #[.int .i64 nz, .int .u8 k9, .int .i64 s9, .int .i64 r9, .int .i64 am9, .int .i64 le9, .bool vb9, .slice a9 L9.length c9] rfl _ (heap_new w5 (.cells #[.int .i64 0, .int .u8 0, .int .i64 0, .int .i64 0, .int .i64 0, .int .i64 0, .bool false, .slice none 0 0] 35)) (by kernel_rfl) rfl (by simp [Value.oneCell']) ?_)
        have XB := hide (heap_new w5 (.cells #[.int .i64 0, .int .u8 0, .int .i64 0, .int .i64 0, .int .i64 0, .int .i64 0, .bool false, .slice none 0 0] 35))
        have hal := (Below.refl w5.heap.size w5).alloc (Nat.le_refl _) (.cells #[.int .i64 0, .int .u8 0, .int .i64 0, .int .i64 0, .int .i64 0, .int .i64 0, .bool false, .slice none 0 0] 35)
        have ho := setRow_only (w5.alloc (.cells #[.int .i64 0, .int .u8 0, .int .i64 0, .int .i64 0, .int .i64 0, .int .i64 0, .bool false, .slice none 0 0] 35)) w5.heap.size (#[.int .i64 nz, .int .u8 k9, .int .i64 s9, .int .i64 r9, .int .i64 am9, .int .i64 le9, .bool vb9, .slice a9 L9.length c9] : Array Value)
        have hbb := setRow_below (hal.trans (Below.refl _ _)) (Nat.le_refl _) hal.size (#[.int .i64 nz, .int .u8 k9, .int .i64 s9, .int .i64 r9, .int .i64 am9, .int .i64 le9, .bool vb9, .slice a9 L9.length c9] : Array Value)
        have XN6 := hide (setRow_same (cs := (#[.int .i64 nz, .int .u8 k9, .int .i64 s9, .int .i64 r9, .int .i64 am9, .int .i64 le9, .bool vb9, .slice a9 L9.length c9] : Array Value)) XB.out)
        have HNP := hide (show w5.heap.size ≠ p from by have := heap_lt N5.out; omega)
        have HNB := hide (show w.heap.size ≤ w5.heap.size from B5.out.size)
        have HOB0 := hide (show ∀ g, (Value.slice a k cp).ownBlock = some g → g ≠ w5.heap.size from fun g hg => by have := (O5.out.lt g hg).2; omega)
        have N6 := hide ((hbb.block _ (heap_lt N5.out)).trans N5.out)
        have O6 := hide (owns_below O5.out hbb)
        have LS6 := hide (fun y hy => (LS5.out y hy).below hbb)
        have LA6 := hide (LA5.out.below hbb)
        have Q6 := hide (Q5.out.below hbb)
        have HNH := hide (show hd ≠ w5.heap.size from by have := Q5.out.lt; omega)
        have B6 := hide (B5.out.trans (hbb.mono B5.out.size))
        clear hal ho hbb N5 O5 LS5 LA5 Q5 B5 XB
        generalize (w5.alloc (.cells #[.int .i64 0, .int .u8 0, .int .i64 0, .int .i64 0, .int .i64 0, .int .i64 0, .bool false, .slice none 0 0] 35)).setRow w5.heap.size (#[.int .i64 nz, .int .u8 k9, .int .i64 s9, .int .i64 r9, .int .i64 am9, .int .i64 le9, .bool vb9, .slice a9 L9.length c9] : Array Value) = w6 at *
        generalize w5.heap.size = tb at *
        have HOB := hide (show ∀ g, (Value.slice a k cp).ownBlock = some g → g = tb → False from fun g hg e => HOB0.out g hg e)
        clear HOB0
        have c1 : w6.cell? ⟨p, 1, none⟩ = some (.int .i64 (x : Int)) := cell_of_block N6.out 1
        have ct : w6.cell? ⟨tb, 0, none⟩ = some (.int .i64 nz) := cell_of_block XN6.out 0
        have ft : w6.frozen? ⟨tb, 0, none⟩ = false := frozen_of_block XN6.out 0
        go_upto_region 18 with (fail)
        have XN7 := hide (show (w6.setCell ⟨tb, 0, none⟩ (.int .i64 ((x : Int) - (n : Int) + (k : Int)))).heap[tb]? = some (.cells #[.int .i64 ((x : Int) - (n : Int) + (k : Int)), .int .u8 k9, .int .i64 s9, .int .i64 r9, .int .i64 am9, .int .i64 le9, .bool vb9, .slice a9 L9.length c9] 35 (0, 0)) from block_setCell XN6.out 0 (.int .i64 ((x : Int) - (n : Int) + (k : Int))))
        have N7 := hide ((block_setCell_other HNP.out 0 (.int .i64 ((x : Int) - (n : Int) + (k : Int)))).trans N6.out)
        have KT7 := hide (setCell_keepsP XN6.out 0 (.int .i64 ((x : Int) - (n : Int) + (k : Int))))
        have O7 := hide (ownsRow_setCell_other (a := ⟨tb, 0, none⟩) O6.out (fun e => HOB.out _ e rfl) (.int .i64 ((x : Int) - (n : Int) + (k : Int))))
        have LS7 := hide (fun y hy => (LS6.out y hy).keepsT KT7.out (by decide))
        have LA7 := hide (LA6.out.keepsT KT7.out (by decide))
        have Q7 := hide (Q6.out.other HNH.out.symm 0 (.int .i64 ((x : Int) - (n : Int) + (k : Int))))
        have B7 := hide (B6.out.setCell (p := ⟨tb, 0, none⟩) HNB.out (.int .i64 ((x : Int) - (n : Int) + (k : Int))))
        clear c1 ct ft XN6 N6 O6 LS6 LA6 Q6 B6 KT7 ha1 ha2 hs3 hs4
        generalize w6.setCell ⟨tb, 0, none⟩ (.int .i64 ((x : Int) - (n : Int) + (k : Int))) = w7 at *
        have N0 := hide (show w7.drew.heap[p]? = some (.cells #[.int .i64 kp, .int .i64 (x : Int), .slice a k cp] 101 (0, 0)) from N7.out)
        have XN0 := hide (show w7.drew.heap[tb]? = some (.cells #[.int .i64 ((x : Int) - (n : Int) + (k : Int)), .int .u8 k9, .int .i64 s9, .int .i64 r9, .int .i64 am9, .int .i64 le9, .bool vb9, .slice a9 L9.length c9] 35 (0, 0)) from XN7.out)
        have OW0 := hide (show w7.drew.ownsRow w.heap.size 35 8 (.slice a k cp) k (T.flatMap txC) from O7.out)
        have LS0 := hide (show ∀ y ∈ T, LnTy 80 w.heap.size w7.drew y.la y.t.L from LS7.out)
        have LA0 := hide (show LnTy 80 wr.heap.size w7.drew a9 L9 from LA7.out)
        have Q0 := hide (Q7.out.drew)
        have B0 := hide B7.out.drew
        clear N7 XN7 O7 LS7 LA7 Q7 B7
        refine wp_region_held_drew (S := (fun W => W.cell? ⟨tb, 0, none⟩ = some (.int .i64 ((x : Int) - (n : Int) + (k : Int))) ∧ W.cell? ⟨tb, 1, none⟩ = some (.int .u8 k9) ∧ W.cell? ⟨tb, 2, none⟩ = some (.int .i64 s9) ∧ W.cell? ⟨tb, 3, none⟩ = some (.int .i64 r9) ∧ W.cell? ⟨tb, 4, none⟩ = some (.int .i64 am9) ∧ W.cell? ⟨tb, 5, none⟩ = some (.int .i64 le9) ∧ W.cell? ⟨tb, 6, none⟩ = some (.bool vb9) ∧ W.cell? ⟨tb, 7, none⟩ = some (.slice a9 L9.length c9))) (by kernel_rfl) (eight_cells XN0.out) (fun hHeld => ?_)
        generalize w7.drew = u0 at *
        refine wpAnyH_take (i := 0) (oi := { dst := some 79, op := Op.move (Operand.tmp 6), type := 49, pos := "fields.go:49", after := #[], guard := none }) (v := ?_) rfl (by kernel_rfl) (by kernel_rfl) (by kernel_rfl) (fun _ _ _ h => h) (Or.inl ⟨by kernel_rfl, ?_⟩) hHeld ?_
        rotate_left
        · (intro w hSw; (try dsimp only at hSw); go_simp); try with_reducible rfl
        try simp only [Act.put, List.setIfInBounds_toArray, List.set_cons_zero, List.set_cons_succ]
        refine wpAnyH_take (i := 1) (oi := { dst := some 80, op := Op.move (Operand.tmp 6), type := 49, pos := "fields.go:49", after := #[], guard := none }) (v := ?_) rfl (by kernel_rfl) (by kernel_rfl) (by kernel_rfl) (fun _ _ _ h => h) (Or.inl ⟨by kernel_rfl, ?_⟩) hHeld ?_
        rotate_left
        · (intro w hSw; (try dsimp only at hSw); go_simp); try with_reducible rfl
        try simp only [Act.put, List.setIfInBounds_toArray, List.set_cons_zero, List.set_cons_succ]
        refine wpAnyH_take (i := 2) (oi := { dst := some 81, op := Op.nilCheck (Operand.tmp 80), type := 0, pos := "fields.go:49", after := #[{ on := 1, ground := Ground.data }], guard := none }) (v := ?_) rfl (by kernel_rfl) (by kernel_rfl) (by kernel_rfl) (fun _ _ _ h => h) (Or.inl ⟨by kernel_rfl, ?_⟩) hHeld ?_
        rotate_left
        · (intro w hSw; (try dsimp only at hSw); go_simp); try with_reducible rfl
        try simp only [Act.put, List.setIfInBounds_toArray, List.set_cons_zero, List.set_cons_succ]
        refine wpAnyH_take (i := 3) (oi := { dst := some 82, op := Op.fieldAddr 101 (Operand.tmp 81) 2, type := 0, pos := "fields.go:49", after := #[{ on := 2, ground := Ground.data }], guard := none }) (v := ?_) rfl (by kernel_rfl) (by kernel_rfl) (by kernel_rfl) (fun _ _ _ h => h) (Or.inl ⟨by kernel_rfl, ?_⟩) hHeld ?_
        rotate_left
        · (intro w hSw; (try dsimp only at hSw); go_simp); try with_reducible rfl
        try simp only [Act.put, List.setIfInBounds_toArray, List.set_cons_zero, List.set_cons_succ]
        refine wpAnyH_take (i := 5) (oi := { dst := some 84, op := Op.load 35 (Operand.tmp 11), type := 35, pos := "fields.go:49", after := #[], guard := none }) (v := ?_) rfl (by kernel_rfl) (by kernel_rfl) (by kernel_rfl) (fun _ _ _ h => h) (Or.inl ⟨by kernel_rfl, ?_⟩) hHeld ?_
        rotate_left
        · (intro w hSw; (try dsimp only at hSw); go_simp); try with_reducible rfl
        try simp only [Act.put, List.setIfInBounds_toArray, List.set_cons_zero, List.set_cons_succ]
        refine wpAnyH_ready (rs := [4, 6]) (by kernel_rfl) (by simp) (AllReadyH.cons (o := { dst := some 83, op := Op.load 67 (Operand.tmp 82), type := 67, pos := "fields.go:49", after := #[{ on := 3, ground := Ground.data }], guard := none }) rfl (fun K hK => ?_) (AllReadyH.cons (o := { dst := some 85, op := Op.buildSlice 67 1 #[(0, Operand.tmp 84)], type := 67, pos := "fields.go:49", after := #[{ on := 5, ground := Ground.data }], guard := none }) rfl (fun K hK => ?_) AllReadyH.nil))
        · have hOld := hide hHeld
          clear hHeld
          have c2 := cell_of_block N0.out 2
          go_simp
          clear c2
          refine hK.out _ _ (eight_cells XN0.out) (fun hHeld => ?_)
          clear hK K hOld
          try simp only [Act.put, List.setIfInBounds_toArray, List.set_cons_zero, List.set_cons_succ]
          refine wpAnyH_ready (rs := [6]) (by kernel_rfl) (by simp) (AllReadyH.cons (o := { dst := some 85, op := Op.buildSlice 67 1 #[(0, Operand.tmp 84)], type := 67, pos := "fields.go:49", after := #[{ on := 5, ground := Ground.data }], guard := none }) rfl (fun K hK => ?_) AllReadyH.nil)
          have hOld := hide hHeld
          clear hHeld
          go_simp
          obtain ⟨oz, hoz⟩ : ∃ oz, oz = Obj.cells #[.int .i64 ((x : Int) - (n : Int) + (k : Int)), .int .u8 k9, .int .i64 s9, .int .i64 r9, .int .i64 am9, .int .i64 le9, .bool vb9, .slice a9 L9.length c9] 35 := ⟨_, rfl⟩
          try rw [← hoz]
          have hal := (Below.refl u0.heap.size u0).alloc (Nat.le_refl _) oz
          have XA1 := hide (heap_new u0 oz)
          have N1 := hide ((hal.block _ (heap_lt N0.out)).trans N0.out)
          have XN1 := hide ((hal.block _ (heap_lt XN0.out)).trans XN0.out)
          have OW1 := hide (owns_below OW0.out hal)
          have LS1 := hide (fun y hy => (LS0.out y hy).below hal)
          have LA1 := hide (LA0.out.below hal)
          have Q1 := hide (Q0.out.below hal)
          have B1 := hide (B0.out.trans (hal.mono B0.out.size))
          clear hal
          generalize u0.alloc oz = u1 at *
          generalize u0.heap.size = ab at *
          rw [hoz] at XA1
          clear hoz oz
          (try go_wp2_with fail)
          refine hK.out _ _ (eight_cells XN1.out) (fun hHeld => ?_)
          clear hK K hOld
          try simp only [Act.put, List.setIfInBounds_toArray, List.set_cons_zero, List.set_cons_succ]
          refine wpAnyH_ready (rs := [7]) (by kernel_rfl) (by simp) (AllReadyH.cons (o := { dst := some 86, op := Op.call { callee := Callee.builtin Builtin.append, args := #[Operand.tmp 83, Operand.tmp 85], argTypes := #[67, 67] }, type := 67, pos := "fields.go:49", after := #[{ on := 4, ground := Ground.data }, { on := 6, ground := Ground.data }], guard := none }) rfl (fun K hK => ?_) AllReadyH.nil)
          have hOld := hide hHeld
          clear hHeld
          refine wp_append_own2 _ (.tmp 83) (.tmp 85) 67 rfl w.heap.size 35 i0 (.agg #[.int .i64 0, .int .u8 0, .int .i64 0, .int .i64 0, .int .i64 0, .int .i64 0, .bool false, .slice none 0 0]) 8 80 Try.underlying67 HI.out HZ0.out HZ1.out HZ2.out rfl (by decide) (.slice a k cp) k (T.flatMap txC) rfl OW1.out ⟨ab, 0, none⟩ 1 1 (by decide) [.int .i64 ((x : Int) - (n : Int) + (k : Int)), .int .u8 k9, .int .i64 s9, .int .i64 r9, .int .i64 am9, .int .i64 le9, .bool vb9, .slice a9 L9.length c9] rfl rfl (eight_at XA1.out) (txC_one (TxA.mk (TxM.mk ((x : Int) - (n : Int) + (k : Int)) k9 s9 r9 am9 le9 vb9 L9) a9 c9)) (by unfold maxLen; have := HK5.out; omega) (by have := HK5.out; omega) B1.out.size ?_
          intro g cap u2 ho hgr hge
          have N2 := hide (grown_stays OW1.out hgr N1.out (by decide))
          have B2 := hide (Below.grown B1.out hgr B1.out.size (fun j hj => (OW1.out.lt j hj).1))
          have KT := hide (KeepsT.grown (Ts := [35]) OW1.out (by decide) hgr)
          have Q2 := hide (Q1.out.keepsT KT.out (by decide))
          have LS2 := hide (fun y hy => (LS1.out y hy).keepsT KT.out (by decide))
          have LA2 := hide (LA1.out.keepsT KT.out (by decide))
          have OW2 := hide (show u2.ownsRow w.heap.size 35 8 (.slice (some ⟨g, 0, none⟩) (k + 1) cap) (k + 1) ((T ++ [(TxA.mk (TxM.mk ((x : Int) - (n : Int) + (k : Int)) k9 s9 r9 am9 le9 vb9 L9) a9 c9)]).flatMap txC) by rw [flat_snoc8]; exact ho)
          have XN2 := hide (show u2.heap[tb]? = some (.cells #[.int .i64 ((x : Int) - (n : Int) + (k : Int)), .int .u8 k9, .int .i64 s9, .int .i64 r9, .int .i64 am9, .int .i64 le9, .bool vb9, .slice a9 L9.length c9] 35 (0, 0)) from (hgr.block _ (heap_lt XN1.out) (fun e => HOB.out _ e.symm rfl)).trans XN1.out)
          clear ho hgr hge
          refine hK.out _ _ (eight_cells XN2.out) (fun hHeld => ?_)
          clear hK K hOld
          try simp only [Act.put, List.setIfInBounds_toArray, List.set_cons_zero, List.set_cons_succ]
          refine wpAnyH_take (i := 8) (oi := { dst := some 87, op := Op.nilCheck (Operand.tmp 79), type := 0, pos := "fields.go:49", after := #[{ on := 0, ground := Ground.data }, { on := 0, ground := Ground.phase }, { on := 1, ground := Ground.phase }, { on := 2, ground := Ground.phase }, { on := 3, ground := Ground.phase }, { on := 4, ground := Ground.phase }, { on := 5, ground := Ground.phase }, { on := 6, ground := Ground.phase }, { on := 7, ground := Ground.phase }], guard := none }) (v := ?_) rfl (by kernel_rfl) (by kernel_rfl) (by kernel_rfl) (fun _ _ _ h => h) (Or.inl ⟨by kernel_rfl, ?_⟩) hHeld ?_
          rotate_left
          · (intro w hSw; (try dsimp only at hSw); go_simp); try with_reducible rfl
          try simp only [Act.put, List.setIfInBounds_toArray, List.set_cons_zero, List.set_cons_succ]
          refine wpAnyH_take (i := 9) (oi := { dst := some 88, op := Op.fieldAddr 101 (Operand.tmp 87) 2, type := 0, pos := "fields.go:49", after := #[{ on := 8, ground := Ground.data }, { on := 0, ground := Ground.phase }, { on := 1, ground := Ground.phase }, { on := 2, ground := Ground.phase }, { on := 3, ground := Ground.phase }, { on := 4, ground := Ground.phase }, { on := 5, ground := Ground.phase }, { on := 6, ground := Ground.phase }, { on := 7, ground := Ground.phase }], guard := none }) (v := ?_) rfl (by kernel_rfl) (by kernel_rfl) (by kernel_rfl) (fun _ _ _ h => h) (Or.inl ⟨by kernel_rfl, ?_⟩) hHeld ?_
          rotate_left
          · (intro w hSw; (try dsimp only at hSw); go_simp); try with_reducible rfl
          try simp only [Act.put, List.setIfInBounds_toArray, List.set_cons_zero, List.set_cons_succ]
          refine wpAnyH_ready (rs := [10]) (by kernel_rfl) (by simp) (AllReadyH.cons (o := { dst := none, op := Op.store 67 (Operand.tmp 88) (Operand.tmp 86), type := 0, pos := "fields.go:49", after := #[{ on := 9, ground := Ground.data }, { on := 7, ground := Ground.data }, { on := 7, ground := Ground.chain }, { on := 0, ground := Ground.phase }, { on := 1, ground := Ground.phase }, { on := 2, ground := Ground.phase }, { on := 3, ground := Ground.phase }, { on := 4, ground := Ground.phase }, { on := 5, ground := Ground.phase }, { on := 6, ground := Ground.phase }, { on := 7, ground := Ground.phase }], guard := none }) rfl (fun K hK => ?_) AllReadyH.nil)
          have hOld := hide hHeld
          clear hHeld
          have c0 := cell_of_block N2.out 0
          have c1 := cell_of_block N2.out 1
          have c2 := cell_of_block N2.out 2
          have f0 := frozen_of_block N2.out 0
          have f1 := frozen_of_block N2.out 1
          have f2 := frozen_of_block N2.out 2
          have HGP := hide (show g ≠ p from fun e => by
            obtain ⟨c', fz', hc⟩ := Go.Lib.ownsRow_kind OW2.out g rfl
            rw [e, N2.out] at hc
            simp only [Option.some.injEq, Obj.cells.injEq] at hc
            exact absurd hc.2.1 (by decide))
          have N3 := hide (show (u2.setCell ⟨p, 2, none⟩ (.slice (some ⟨g, 0, none⟩) (k + 1) cap)).heap[p]? = some (.cells #[.int .i64 kp, .int .i64 x, .slice (some ⟨g, 0, none⟩) (k + 1) cap] 101 (0, 0)) from block_setCell N2.out 2 (.slice (some ⟨g, 0, none⟩) (k + 1) cap))
          have B3 := hide (B2.out.setCell (p := ⟨p, 2, none⟩) HPB.out (.slice (some ⟨g, 0, none⟩) (k + 1) cap))
          have XN3 := hide ((block_setCell_other HNP.out.symm 2 (.slice (some ⟨g, 0, none⟩) (k + 1) cap)).trans XN2.out)
          have Q3 := hide (Q2.out.other HPH.out.symm 2 (.slice (some ⟨g, 0, none⟩) (k + 1) cap))
          have KP := hide (setCell_keepsP N2.out 2 (.slice (some ⟨g, 0, none⟩) (k + 1) cap))
          have LS3 := hide (fun y hy => (LS2.out y hy).keepsT KP.out (by decide))
          have LA3 := hide (LA2.out.keepsT KP.out (by decide))
          have OW3 := hide (ownsRow_setCell_other (a := ⟨p, 2, none⟩) OW2.out (fun e => HGP.out (Option.some.inj e)) (.slice (some ⟨g, 0, none⟩) (k + 1) cap))
          go_simp
          clear c0 c1 c2 f0 f1 f2
          generalize u2.setCell ⟨p, 2, none⟩ (.slice (some ⟨g, 0, none⟩) (k + 1) cap) = u3 at *
          refine hK.out _ _ (eight_cells XN3.out) (fun hHeld => ?_)
          clear hK K hOld
          try simp only [Act.put, List.setIfInBounds_toArray, List.set_cons_zero, List.set_cons_succ]
          refine wpAnyH_done (by kernel_rfl) ?_ _
          clear hHeld
          go_wp2_with fail
          go_roundw
          case rel => exact ⟨k + 1, T ++ [(TxA.mk (TxM.mk ((x : Int) - (n : Int) + (k : Int)) k9 s9 r9 am9 le9 vb9 L9) a9 c9)], some ⟨g, 0, none⟩, cap, true, _, HLTM.out, by go_num, by rw [List.length_append, HML.out]; rfl, N3.out, OW3.out, (fun y hy => by
            rcases List.mem_append.1 hy with hy | hy
            · exact LS3.out y hy
            · rw [List.mem_singleton.1 hy]; exact LA3.out.mono HSB.out), Q3.out, (fun _ => HYN.out), (fun h => by cases h), B3.out⟩
          case measure => have := HLTM.out; simp [Go.RowKit.intOf]; omega
        · have hOld := hide hHeld
          clear hHeld
          go_simp
          obtain ⟨oz, hoz⟩ : ∃ oz, oz = Obj.cells #[.int .i64 ((x : Int) - (n : Int) + (k : Int)), .int .u8 k9, .int .i64 s9, .int .i64 r9, .int .i64 am9, .int .i64 le9, .bool vb9, .slice a9 L9.length c9] 35 := ⟨_, rfl⟩
          try rw [← hoz]
          have hal := (Below.refl u0.heap.size u0).alloc (Nat.le_refl _) oz
          have XA1 := hide (heap_new u0 oz)
          have N1 := hide ((hal.block _ (heap_lt N0.out)).trans N0.out)
          have XN1 := hide ((hal.block _ (heap_lt XN0.out)).trans XN0.out)
          have OW1 := hide (owns_below OW0.out hal)
          have LS1 := hide (fun y hy => (LS0.out y hy).below hal)
          have LA1 := hide (LA0.out.below hal)
          have Q1 := hide (Q0.out.below hal)
          have B1 := hide (B0.out.trans (hal.mono B0.out.size))
          clear hal
          generalize u0.alloc oz = u1 at *
          generalize u0.heap.size = ab at *
          rw [hoz] at XA1
          clear hoz oz
          (try go_wp2_with fail)
          refine hK.out _ _ (eight_cells XN1.out) (fun hHeld => ?_)
          clear hK K hOld
          try simp only [Act.put, List.setIfInBounds_toArray, List.set_cons_zero, List.set_cons_succ]
          refine wpAnyH_ready (rs := [4]) (by kernel_rfl) (by simp) (AllReadyH.cons (o := { dst := some 83, op := Op.load 67 (Operand.tmp 82), type := 67, pos := "fields.go:49", after := #[{ on := 3, ground := Ground.data }], guard := none }) rfl (fun K hK => ?_) AllReadyH.nil)
          have hOld := hide hHeld
          clear hHeld
          have c2 := cell_of_block N1.out 2
          go_simp
          clear c2
          refine hK.out _ _ (eight_cells XN1.out) (fun hHeld => ?_)
          clear hK K hOld
          try simp only [Act.put, List.setIfInBounds_toArray, List.set_cons_zero, List.set_cons_succ]
          refine wpAnyH_ready (rs := [7]) (by kernel_rfl) (by simp) (AllReadyH.cons (o := { dst := some 86, op := Op.call { callee := Callee.builtin Builtin.append, args := #[Operand.tmp 83, Operand.tmp 85], argTypes := #[67, 67] }, type := 67, pos := "fields.go:49", after := #[{ on := 4, ground := Ground.data }, { on := 6, ground := Ground.data }], guard := none }) rfl (fun K hK => ?_) AllReadyH.nil)
          have hOld := hide hHeld
          clear hHeld
          refine wp_append_own2 _ (.tmp 83) (.tmp 85) 67 rfl w.heap.size 35 i0 (.agg #[.int .i64 0, .int .u8 0, .int .i64 0, .int .i64 0, .int .i64 0, .int .i64 0, .bool false, .slice none 0 0]) 8 80 Try.underlying67 HI.out HZ0.out HZ1.out HZ2.out rfl (by decide) (.slice a k cp) k (T.flatMap txC) rfl OW1.out ⟨ab, 0, none⟩ 1 1 (by decide) [.int .i64 ((x : Int) - (n : Int) + (k : Int)), .int .u8 k9, .int .i64 s9, .int .i64 r9, .int .i64 am9, .int .i64 le9, .bool vb9, .slice a9 L9.length c9] rfl rfl (eight_at XA1.out) (txC_one (TxA.mk (TxM.mk ((x : Int) - (n : Int) + (k : Int)) k9 s9 r9 am9 le9 vb9 L9) a9 c9)) (by unfold maxLen; have := HK5.out; omega) (by have := HK5.out; omega) B1.out.size ?_
          intro g cap u2 ho hgr hge
          have N2 := hide (grown_stays OW1.out hgr N1.out (by decide))
          have B2 := hide (Below.grown B1.out hgr B1.out.size (fun j hj => (OW1.out.lt j hj).1))
          have KT := hide (KeepsT.grown (Ts := [35]) OW1.out (by decide) hgr)
          have Q2 := hide (Q1.out.keepsT KT.out (by decide))
          have LS2 := hide (fun y hy => (LS1.out y hy).keepsT KT.out (by decide))
          have LA2 := hide (LA1.out.keepsT KT.out (by decide))
          have OW2 := hide (show u2.ownsRow w.heap.size 35 8 (.slice (some ⟨g, 0, none⟩) (k + 1) cap) (k + 1) ((T ++ [(TxA.mk (TxM.mk ((x : Int) - (n : Int) + (k : Int)) k9 s9 r9 am9 le9 vb9 L9) a9 c9)]).flatMap txC) by rw [flat_snoc8]; exact ho)
          have XN2 := hide (show u2.heap[tb]? = some (.cells #[.int .i64 ((x : Int) - (n : Int) + (k : Int)), .int .u8 k9, .int .i64 s9, .int .i64 r9, .int .i64 am9, .int .i64 le9, .bool vb9, .slice a9 L9.length c9] 35 (0, 0)) from (hgr.block _ (heap_lt XN1.out) (fun e => HOB.out _ e.symm rfl)).trans XN1.out)
          clear ho hgr hge
          refine hK.out _ _ (eight_cells XN2.out) (fun hHeld => ?_)
          clear hK K hOld
          try simp only [Act.put, List.setIfInBounds_toArray, List.set_cons_zero, List.set_cons_succ]
          refine wpAnyH_take (i := 8) (oi := { dst := some 87, op := Op.nilCheck (Operand.tmp 79), type := 0, pos := "fields.go:49", after := #[{ on := 0, ground := Ground.data }, { on := 0, ground := Ground.phase }, { on := 1, ground := Ground.phase }, { on := 2, ground := Ground.phase }, { on := 3, ground := Ground.phase }, { on := 4, ground := Ground.phase }, { on := 5, ground := Ground.phase }, { on := 6, ground := Ground.phase }, { on := 7, ground := Ground.phase }], guard := none }) (v := ?_) rfl (by kernel_rfl) (by kernel_rfl) (by kernel_rfl) (fun _ _ _ h => h) (Or.inl ⟨by kernel_rfl, ?_⟩) hHeld ?_
          rotate_left
          · (intro w hSw; (try dsimp only at hSw); go_simp); try with_reducible rfl
          try simp only [Act.put, List.setIfInBounds_toArray, List.set_cons_zero, List.set_cons_succ]
          refine wpAnyH_take (i := 9) (oi := { dst := some 88, op := Op.fieldAddr 101 (Operand.tmp 87) 2, type := 0, pos := "fields.go:49", after := #[{ on := 8, ground := Ground.data }, { on := 0, ground := Ground.phase }, { on := 1, ground := Ground.phase }, { on := 2, ground := Ground.phase }, { on := 3, ground := Ground.phase }, { on := 4, ground := Ground.phase }, { on := 5, ground := Ground.phase }, { on := 6, ground := Ground.phase }, { on := 7, ground := Ground.phase }], guard := none }) (v := ?_) rfl (by kernel_rfl) (by kernel_rfl) (by kernel_rfl) (fun _ _ _ h => h) (Or.inl ⟨by kernel_rfl, ?_⟩) hHeld ?_
          rotate_left
          · (intro w hSw; (try dsimp only at hSw); go_simp); try with_reducible rfl
          try simp only [Act.put, List.setIfInBounds_toArray, List.set_cons_zero, List.set_cons_succ]
          refine wpAnyH_ready (rs := [10]) (by kernel_rfl) (by simp) (AllReadyH.cons (o := { dst := none, op := Op.store 67 (Operand.tmp 88) (Operand.tmp 86), type := 0, pos := "fields.go:49", after := #[{ on := 9, ground := Ground.data }, { on := 7, ground := Ground.data }, { on := 7, ground := Ground.chain }, { on := 0, ground := Ground.phase }, { on := 1, ground := Ground.phase }, { on := 2, ground := Ground.phase }, { on := 3, ground := Ground.phase }, { on := 4, ground := Ground.phase }, { on := 5, ground := Ground.phase }, { on := 6, ground := Ground.phase }, { on := 7, ground := Ground.phase }], guard := none }) rfl (fun K hK => ?_) AllReadyH.nil)
          have hOld := hide hHeld
          clear hHeld
          have c0 := cell_of_block N2.out 0
          have c1 := cell_of_block N2.out 1
          have c2 := cell_of_block N2.out 2
          have f0 := frozen_of_block N2.out 0
          have f1 := frozen_of_block N2.out 1
          have f2 := frozen_of_block N2.out 2
          have HGP := hide (show g ≠ p from fun e => by
            obtain ⟨c', fz', hc⟩ := Go.Lib.ownsRow_kind OW2.out g rfl
            rw [e, N2.out] at hc
            simp only [Option.some.injEq, Obj.cells.injEq] at hc
            exact absurd hc.2.1 (by decide))
          have N3 := hide (show (u2.setCell ⟨p, 2, none⟩ (.slice (some ⟨g, 0, none⟩) (k + 1) cap)).heap[p]? = some (.cells #[.int .i64 kp, .int .i64 x, .slice (some ⟨g, 0, none⟩) (k + 1) cap] 101 (0, 0)) from block_setCell N2.out 2 (.slice (some ⟨g, 0, none⟩) (k + 1) cap))
          have B3 := hide (B2.out.setCell (p := ⟨p, 2, none⟩) HPB.out (.slice (some ⟨g, 0, none⟩) (k + 1) cap))
          have XN3 := hide ((block_setCell_other HNP.out.symm 2 (.slice (some ⟨g, 0, none⟩) (k + 1) cap)).trans XN2.out)
          have Q3 := hide (Q2.out.other HPH.out.symm 2 (.slice (some ⟨g, 0, none⟩) (k + 1) cap))
          have KP := hide (setCell_keepsP N2.out 2 (.slice (some ⟨g, 0, none⟩) (k + 1) cap))
          have LS3 := hide (fun y hy => (LS2.out y hy).keepsT KP.out (by decide))
          have LA3 := hide (LA2.out.keepsT KP.out (by decide))
          have OW3 := hide (ownsRow_setCell_other (a := ⟨p, 2, none⟩) OW2.out (fun e => HGP.out (Option.some.inj e)) (.slice (some ⟨g, 0, none⟩) (k + 1) cap))
          go_simp
          clear c0 c1 c2 f0 f1 f2
          generalize u2.setCell ⟨p, 2, none⟩ (.slice (some ⟨g, 0, none⟩) (k + 1) cap) = u3 at *
          refine hK.out _ _ (eight_cells XN3.out) (fun hHeld => ?_)
          clear hK K hOld
          try simp only [Act.put, List.setIfInBounds_toArray, List.set_cons_zero, List.set_cons_succ]
          refine wpAnyH_done (by kernel_rfl) ?_ _
          clear hHeld
          go_wp2_with fail
          go_roundw
          case rel => exact ⟨k + 1, T ++ [(TxA.mk (TxM.mk ((x : Int) - (n : Int) + (k : Int)) k9 s9 r9 am9 le9 vb9 L9) a9 c9)], some ⟨g, 0, none⟩, cap, true, _, HLTM.out, by go_num, by rw [List.length_append, HML.out]; rfl, N3.out, OW3.out, (fun y hy => by
            rcases List.mem_append.1 hy with hy | hy
            · exact LS3.out y hy
            · rw [List.mem_singleton.1 hy]; exact LA3.out.mono HSB.out), Q3.out, (fun _ => HYN.out), (fun h => by cases h), B3.out⟩
          case measure => have := HLTM.out; simp [Go.RowKit.intOf]; omega
      · have HNN := hide (show regR kp t = none from by
          cases ok with
          | false => exact HNM.out rfl
          | true =>
            rw [HYM.out rfl, HSN.out, rdX_no (fun hh => hbad ⟨rfl, hh⟩)])
        have B5 := hide (ho.below BM.out HHB.out BM.out.size)
        clear hbad ho NM OM LSM QM BM HRT HYM HNM HSN
        have XB := hide (heap_new w5 (.cells #[.int .i64 0, .int .u8 0, .int .i64 0, .int .i64 0, .int .i64 0, .int .i64 0, .bool false, .slice none 0 0] 35))
        go_upto_region 15 with (refine rw_store rfl 35 (.tmp 11) (.tmp 65) rfl w5.heap.size rfl #[.int .i64 0, .int .u8 0, .int .i64 0, .int .i64 0, .int .i64 0, .int .i64 0, .bool false, .slice none 0 0] rfl _ XB.out (by kernel_rfl) rfl (by simp [Value.oneCell']) ?_)
        have hal := (Below.refl w5.heap.size w5).alloc (Nat.le_refl _) (.cells #[.int .i64 0, .int .u8 0, .int .i64 0, .int .i64 0, .int .i64 0, .int .i64 0, .bool false, .slice none 0 0] 35)
        have hbb := setRow_below (hal.trans (Below.refl _ _)) (Nat.le_refl _) hal.size (#[.int .i64 0, .int .u8 0, .int .i64 0, .int .i64 0, .int .i64 0, .int .i64 0, .bool false, .slice none 0 0] : Array Value)
        have B6 := hide (B5.out.trans (hbb.mono B5.out.size))
        clear hal hbb XB
        generalize (w5.alloc (.cells #[.int .i64 0, .int .u8 0, .int .i64 0, .int .i64 0, .int .i64 0, .int .i64 0, .bool false, .slice none 0 0] 35)).setRow w5.heap.size (#[.int .i64 0, .int .u8 0, .int .i64 0, .int .i64 0, .int .i64 0, .int .i64 0, .bool false, .slice none 0 0] : Array Value) = w6 at *
        go_wp2_with fail
        go_ret2
        exact .inl ⟨HNN.out, rfl, .of_below B6.out⟩
    · obtain rfl : k = n := by omega
      rw [Nat.sub_self] at HYM
      clear hlt
      obtain ⟨sl, hsr, hse, hsz⟩ := QM.out
      have RH := hide hsr
      have HSZ := hide hsz
      cases ok with
      | false =>
        have HNN := hide (HNM.out rfl)
        clear hsr hse hsz HYM HNM
        go_wp2_with fail
        refine (wrong_any hd sl true wr RH.out).mono ?_
        rintro e wb ⟨rfl, rfl⟩
        go_wp2_with fail
        go_ret2
        exact .inl ⟨HNN.out, rfl, .of_below BM.out⟩
      | true =>
        have hsl := hse rfl
        subst hsl
        have HSO := hide (show regR kp t = some (T.map (·.t), l) from HYM.out rfl)
        have RM := hide (show RdAt wr r (bs t) false from R00.out.below BM.out)
        clear hsr hse hsz HYM HNM
        go_wp2_with fail
        refine (wrong_any hd (bs l) false wr RH.out).mono ?_
        rintro e wb ⟨rfl, rfl⟩
        obtain ⟨e0, e1, -, -⟩ := RH.out.cells
        obtain ⟨d0, d1, g0, g1⟩ := RM.out.cells
        go_wp2_with fail
        go_ret2
        have hrp : r ≠ p := by have := HLT.out; have := HPB.out; omega
        have k0 := setCell_keepsP RM.out.row 0 (.string (bs l))
        have r0 := block_setCell RM.out.row 0 (.string (bs l))
        have k1 := setCell_keepsP r0 1 (.bool false)
        obtain ⟨q1, q2, q3⟩ := regR_some HSO.out
        obtain ⟨z1, z2, z3, z4⟩ := HOK.out
        rw [List.length_map] at q1
        refine .inr ⟨T, l, p, .slice a k cp, HSO.out, rfl, ⟨?_, ?_, fun y hy => (((LSM.out y hy).keepsT k0 (by decide)).keepsT k1 (by decide)).lnT, HPB.out, HKP.out, ?_, ?_, q2.ok, q2.nums⟩, ⟨bs l, ⟨block_setCell (block_setCell RM.out.row 0 _) 1 _⟩, fun _ => rfl, HSZ.out⟩, ((Only.of_below BM.out).trans (Only.setCell r 0 _)).trans (Only.setCell r 1 _)⟩
        · rw [← HEX.out]
          exact (block_setCell_other hrp 1 _).trans ((block_setCell_other hrp 0 _).trans NM.out)
        · rw [HML.out]
          exact ((OffRow.of_owns OM.out).keepsT k0 (by decide)).keepsT k1 (by decide)
        · rw [← HEX.out]; omega
        · rw [← HEX.out, HML.out]; omega
end Go.Proofs.Ytbnbfnlfgmlcgaa
