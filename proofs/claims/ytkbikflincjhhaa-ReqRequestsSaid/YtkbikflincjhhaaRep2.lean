/-
  Layer 28: replies as bytes: Encode and ParseReply of whatever kind.
-/
import Derived.Test.YtkbikflincjhhaaRep
import Derived.Laws.Rows
import Derived.Deep.WholeRow

namespace Go.Proofs.Ytkbikflincjhhaa
set_option linter.unusedSimpArgs false
set_option linter.unusedVariables false
open Go.RowKit Go.WideShapes Go.ChangeShapes Go.ChangeAt Go.Deep
theorem wpList_rowLoad {P : Program} {ops : Array Oper} {rest : List Oper} {o : Oper} {a : Act} {w : World} {Q : Exit → Act → World → Prop} (hgd : o.guard = none) (ty : TypeId) (x : Operand) (ho : o.op = .load ty x)
    (g : Nat) (hx : a.eval x = .pointer (some ⟨g, 0, none⟩)) (t : TypeId) (cs : Array Value) (fr : Nat × Nat) (d : TypeDesc) (hg : w.heap[g]? = some (.cells cs t fr))
    (hu : P.underlying ty = some d) (hd : (match d with | .struct _ | .array _ _ => true | _ => false) = true) (hi : (P.info? ty).map (·.size) = some cs.size)
    (h : wpList P ops Q rest (a.put o.dst (.agg cs)) w) : wpList P ops Q (o :: rest) a w :=
  wpList_plain hgd fun _ hK => wp_load_row ty x ho g hx t cs fr d hg hu hd hi (hK _ _ h)
theorem wpList_rowStore {P : Program} {ops : Array Oper} {rest : List Oper} {o : Oper} {a : Act} {w : World} {Q : Exit → Act → World → Prop} (hgd : o.guard = none) (ty : TypeId) (x y : Operand) (ho : o.op = .store ty x y)
    (g : Nat) (hx : a.eval x = .pointer (some ⟨g, 0, none⟩)) (cs : Array Value) (hy : a.eval y = .agg cs) (old : Array Value) (hg : w.heap[g]? = some (.cells old ty (0, 0)))
    (hi : (P.info? ty).map (·.size) = some cs.size) (hs : old.size = cs.size) (h1 : cs.all (·.oneCell') = true)
    (h : wpList P ops Q rest (a.put o.dst undef) (w.setRow g cs)) : wpList P ops Q (o :: rest) a w :=
  wpList_plain hgd fun _ hK => by
    unfold Oper.wp execOp
    simp only [ho, hx, hy, Instr.storeAt, Instr.sureAddr, Sem.run_bind, Sem.run_pure, Result.andThen_ok, run_storeVar_row w g ty ty old cs hg hi hs h1]
    exact hK _ _ h
theorem setRow_self (w : World) (g : Nat) (old cs : Array Value) (t : TypeId) (fr : Nat × Nat) (h : w.heap[g]? = some (.cells old t fr)) : (w.setRow g cs).heap[g]? = some (.cells cs t fr) := by
  unfold World.setRow
  simp [Array.getElem?_modify, h]
theorem setRow_apart {w : World} {g k : Nat} {cs : Array Value} (h : g ≠ k) : (w.setRow g cs).heap[k]? = w.heap[k]? := by
  unfold World.setRow
  simp [Array.getElem?_modify, h]
theorem setRow_sz (w : World) (g : Nat) (cs : Array Value) : (w.setRow g cs).heap.size = w.heap.size := by
  unfold World.setRow
  simp
theorem setRow_low {B : Nat} {a w : World} (h : Below B a w) {g : Nat} (hg : B ≤ g) (cs : Array Value) : Below B a (w.setRow g cs) :=
  h.trans ⟨rfl, rfl, rfl, Nat.le_of_eq (setRow_sz w g cs).symm, fun k hk => setRow_apart (by omega)⟩
theorem LnFrom.setRow {B : Nat} {w : World} {a : Option Addr} {L : List LnM} (h : LnFrom B w a L) {g : Nat} (hg : g < B) (cs : Array Value) : LnFrom B (w.setRow g cs) a L := fun i hi => by
  obtain ⟨b, off, h1, h2, h3, c0, c1⟩ := h i hi
  have hb : (w.setRow g cs).heap[b]? = w.heap[b]? := setRow_apart (by omega)
  refine ⟨b, off, h1, h2, by rw [setRow_sz]; exact h3, ?_, ?_⟩
  · simp only [World.cell?, hb] at c0 ⊢; exact c0
  · simp only [World.cell?, hb] at c1 ⊢; exact c1
section
variable {P : Program} {w : World} {ops : Array Oper} {rest : List Oper} {o : Oper} {a : Act} {Q : Exit → Act → World → Prop}
theorem wpList_oneBuild (hg : o.guard = none) (t : TypeId) (x : Operand) (i : Nat) (hop : o.op = Op.build t #[(i, x)]) (u : Value) (hx : a.eval x = u) (v : Value) (hv : (Instr.build t #[(i, u)]).run P w = .ok v w) (hK : wpList P ops Q rest (a.put o.dst v) w) : wpList P ops Q (o :: rest) a w := by
  refine wpList_plain hg fun K' hK' => ?_
  unfold Oper.wp
  simp [execOp, hop, hx, hv, Result.andThen]
  exact hK' _ _ hK
theorem wpList_theAlloc (hg : o.guard = none) (t : TypeId) (hop : o.op = Op.alloc t) (v : Value) (w' : World) (hv : (Instr.alloc t true (.tuple #[])).run P w = .ok v w') (hK : wpList P ops Q rest (a.put o.dst v) w') : wpList P ops Q (o :: rest) a w := by
  refine wpList_plain hg fun K' hK' => ?_
  unfold Oper.wp
  simp [execOp, hop, hv, Result.andThen]
  exact hK' _ _ hK
end
theorem rp_build (n : Int) (w : World) : (Instr.build 71 #[(0, .int .i64 n)]).run Try.prog w = .ok (.agg (rpC { rp0 with err := n } (.slice none 0 0))) w := by kernel_rfl
theorem rp_alloc (w : World) : (Instr.alloc 71 true (.tuple #[])).run Try.prog w = .ok (.pointer (some ⟨w.heap.size, 0, none⟩)) (w.alloc (.cells (rpC rp0 (.slice none 0 0)) 71)) := by kernel_rfl
theorem rpC_info (x : RpM) (lv : Value) : (Try.prog.info? 71).map (·.size) = some (rpC x lv).size := by
  show _ = some 19
  kernel_rfl
theorem rpC_one (x : RpM) (a : Option Addr) (n c : Nat) : (rpC x (.slice a n c)).all (·.oneCell') = true := by simp [rpC, Value.oneCell']
theorem rpC_err (x : RpM) (lv : Value) : (rpC x lv)[0]? = some (.int .i64 x.err) := rfl
def REncIs (k : Nat) (x : RpM) (w : World) (e : Ending) (w' : World) : Prop := e = .returned (.string (outS (rencOk k x) (rencT k x))) ∧ Below w.heap.size w w'
/-- what the kinds' writes do -/
def RWrites (k : Nat) : Prop := ∀ (x : RpM) (hx : RpOk x) (a : Option Addr) (cap q : Nat) (w0 w : World) (hin : LnIn w0 a x.L) (hlow : Below w0.heap.size w0 w) (T : List UInt8) (hW : WQ w w0.heap.size q true T 8) (hB : w0.heap.size ≤ q),
    Calls Try.prog 32 #[.agg (rpC x (.slice a x.L.length cap)), .pointer (some ⟨q, 0, none⟩), .int .u8 (k : Int)] w (RWrIs w0 q k x T)
theorem ret_str0 {a b : ByteArray} (h : a = b) : Ending.returned (.string a) = .returned (.string b) := by rw [h]
set_option maxRecDepth 100000 in
set_option maxHeartbeats 1000000 in
theorem renc_any (k : Nat) (hk : 1 ≤ k ∧ k ≤ 14) (hwr : RWrites k) (x : RpM) (hx : RpOk x) (a : Option Addr) (cap : Nat) (w : World) (hin : LnIn w a x.L) :
    Calls Try.prog 15 #[.agg (rpC x (.slice a x.L.length cap)), .int .u8 (k : Int)] w (REncIs k x w) := by
  have hwx := hwr x hx a cap
  have hrc := rpC_err x (.slice a x.L.length cap)
  have HI := hide (rpC_info x (.slice a x.L.length cap))
  generalize rpC x (.slice a x.L.length cap) = C at *
  have hal := (Below.refl w.heap.size w).alloc (Nat.le_refl _) (.cells C 71)
  have RB := hide (heap_new w (.cells C 71))
  have BL := hide hal
  have HIN := hide (hin.below hal)
  have HR := hide hx
  have HRC := hide hrc
  have HRT := hide (fun W => right_any (k : Int) W)
  rw [show rtB (k : Int) = true from decide_eq_true (by omega)] at HRT
  have HW := hide hwx
  clear hal hin hx hwr hwx hrc
  go_enter Try.func15, Try.ntmps15
  go_upto_region 1 with (fail)
  generalize w.alloc (.cells C 71) = w1 at *
  generalize hrb : w.heap.size = rb at RB ⊢
  have HRBS := hide hrb
  clear hrb
  have HSZ := hide (show w.heap.size ≤ w1.heap.size from by rw [HRBS.out]; exact Nat.le_of_lt (heap_lt RB.out))
  go_wp2_with fail
  refine (HRT.out _).mono ?_
  rintro e w2 ⟨rfl, rfl⟩
  have WN := hide (WQ.new (w := w1) (Nat.le_refl _))
  have hal := (Below.refl w1.heap.size w1).alloc (Nat.le_refl _) (.cells #[.slice none 0 0, .bool false] 84)
  have BL2 := hide hal
  have RB2 := hide ((hal.block _ (heap_lt RB.out)).trans RB.out)
  have HC0 := hide (fun W hw => wq_number w1.heap.size w1.heap.size true [] 0 (by omega) (IntKind.u64.wrap x.err) (wu64 _).1 (wu64 _).2 1 W hw (Nat.le_refl _))
  rw [show (IntKind.u64.wrap x.err).toNat = wu x.err from rfl, fit1_wu _ HR.out.err, put1_wu, List.nil_append, Bool.true_and] at HC0
  clear hal
  go_upto_region 4 with (fail)
  generalize w1.alloc (.cells #[.slice none 0 0, .bool false] 84) = w2 at *
  generalize hq : w1.heap.size = q at WN HC0 ⊢
  have HQ := hide hq
  clear hq
  have e0 := (cell_of_block RB2.out 0).trans HRC.out
  go_wp2_with fail
  refine (HC0.out _ (by rw [HQ.out] at *; exact WN.out)).mono ?_
  rintro e w3 ⟨rfl, hw, hb, hk3⟩
  have WR3 := hide hw
  have BL3 := hide (BL2.out.trans (by rw [HQ.out]; exact hb))
  have RB3 := hide ((BL3.out.block _ (heap_lt RB.out)).trans RB.out)
  clear hw hb hk3 e0 BL2 RB2 WN HC0
  by_cases he : x.err = 0
  · have HE := hide he
    have hf : fit1 x.err = true := by rw [he]; rfl
    rw [hf] at WR3
    have he1 : (x.err == 0) = true := by rw [he]; rfl
    have e0 := (cell_of_block RB3.out 0).trans HRC.out
    rw [he] at e0
    clear he hf
    go_wp2_with (refine wpList_rowLoad rfl 71 (.tmp 2) rfl rb rfl 71 C (0, 0) _ RB3.out Try.underlying71 rfl HI.out ?_)
    have hwe := HW.out q w1 w3 HIN.out BL3.out (putL (wu x.err) 1) (by rw [HQ.out]; exact WR3.out) (by rw [HQ.out]; exact Nat.le_refl _)
    refine hwe.mono ?_
    rintro e w5 ⟨rfl, hw, hb⟩
    have WR5 := hide hw
    have BL5 := hide hb
    clear hwe hw hb e0 RB3 WR3 BL3
    go_wp2_with fail
    refine (wq_bytes _ _ _ _ _ _ WR5.out).mono ?_
    rintro e w6 ⟨rfl, rfl⟩
    go_wp2_with fail
    go_ret
    refine ⟨ret_str0 ?_, BL.out.trans (BL5.out.mono HSZ.out)⟩
    unfold rencOk rencT
    rw [if_pos HE.out, if_pos HE.out]
  · have HE := hide he
    have he1 : (x.err == 0) = false := beq_eq_false_iff_ne.mpr he
    have e0 := (cell_of_block RB3.out 0).trans HRC.out
    go_wp2_with fail
    refine (wq_bytes _ _ _ _ _ _ WR3.out).mono ?_
    rintro e w6 ⟨rfl, rfl⟩
    go_wp2_with fail
    go_ret
    refine ⟨ret_str0 ?_, BL.out.trans (BL3.out.mono HSZ.out)⟩
    unfold rencOk rencT
    rw [if_neg HE.out, if_neg HE.out, List.append_nil]
/-- are these bytes a reply's of this kind? -/
def parO (k : Nat) (l : List UInt8) : Bool := decide (1 ≤ l.length) && (if kd l = 0 then repD k (l.drop 1) else decide (l.length = 1))
def parR (k : Nat) (l : List UInt8) : RpM := if kd l = 0 then repR k (l.drop 1) else { rp0 with err := kd l }
def parE (k : Nat) (l : List UInt8) : Int := if parO k l = true then 0 else 4
def parX (k : Nat) (l : List UInt8) : RpM := if parO k l = true then parR k l else rp0
theorem par_no {k : Nat} {l : List UInt8} (h : ¬ parO k l = true) : parE k l = 4 ∧ parX k l = rp0 := ⟨if_neg h, if_neg h⟩
theorem par_yes {k : Nat} {l : List UInt8} (h : parO k l = true) : parE k l = 0 ∧ parX k l = parR k l := ⟨if_pos h, if_pos h⟩
def ParIs (k : Nat) (l : List UInt8) (w : World) (e : Ending) (w' : World) : Prop := ∃ (a : Option Addr) (c : Nat), e = .returned (.tuple #[.agg (rpC (parX k l) (.slice a (parX k l).L.length c)), .int .i64 (parE k l)]) ∧ LnIn w' a (parX k l).L ∧ Below w.heap.size w w'
def RReads (k : Nat) : Prop := ∀ (p rb ra : Nat) (ok : Bool) (l : List UInt8) (w W : World) (h : RpF w W p rb ra ok l #[.int .i64 0, .int .i64 0, .int .i64 0, .int .i64 0, .int .i64 0, .int .i64 0, .int .i64 0, .int .i64 0, .int .i64 0, .int .u8 0, .int .i64 0, .int .i64 0, .int .i64 0, .int .i64 0, .bool false, .slice none 0 0, .int .i64 0, .int .i64 0, .bool false]),
    Calls Try.prog 33 #[.pointer (some ⟨rb, 0, none⟩), .pointer (some ⟨p, 0, none⟩), .int .u8 (k : Int)] W (RRdIs w p rb ra k ok l)
theorem rep_err (k : Nat) (l : List UInt8) : (repR k l).err = 0 := by
  unfold repR totR
  repeat' (split; rfl)
  rfl
set_option maxRecDepth 100000 in
set_option maxHeartbeats 1000000 in
theorem par_any (k : Nat) (hk : 1 ≤ k ∧ k ≤ 14) (hrd : RReads k) (l : List UInt8) (hl : l.length ≤ 1000000) (w : World) : Calls Try.prog 16 #[.int .u8 (k : Int), .string (bs l)] w (ParIs k l w) := by
  have HRD := hide (fun W => rq_new l hl W)
  have HN1 := hide (fun p W hw => rq_number p true l 1 (by decide) (by decide) W hw)
  unfold RNIs at HN1
  obtain ⟨n0, hn0⟩ : ∃ n, kd l = n := ⟨_, rfl⟩
  rw [vN_kd, hn0] at HN1
  obtain ⟨o1, ho1⟩ : ∃ o, (true && decide (1 ≤ l.length)) = o := ⟨_, rfl⟩
  rw [ho1] at HN1
  have HO1 := hide ho1
  have hkl := kd_lt l
  rw [hn0] at hkl
  obtain ⟨hwk, -⟩ := wr_i64 n0 (by omega)
  have HN0 := hide hn0
  have hk0 : 0 ≤ (n0 : Int) ∧ (n0 : Int) ≤ 255 := by omega
  have HRT := hide (fun W => right_any (k : Int) W)
  rw [show rtB (k : Int) = true from decide_eq_true (by omega)] at HRT
  have HREAD := hide hrd
  clear hn0 ho1 hkl hrd
  go_enter Try.func16, Try.ntmps16
  have hal := (Below.refl w.heap.size w).alloc (Nat.le_refl _) (.cells #[.int .i64 0, .int .i64 0, .int .i64 0, .int .i64 0, .int .i64 0, .int .i64 0, .int .i64 0, .int .i64 0, .int .i64 0, .int .u8 0, .int .i64 0, .int .i64 0, .int .i64 0, .int .i64 0, .bool false, .slice none 0 0, .int .i64 0, .int .i64 0, .bool false] 71)
  have XA := hide (heap_new w (.cells #[.int .i64 0, .int .i64 0, .int .i64 0, .int .i64 0, .int .i64 0, .int .i64 0, .int .i64 0, .int .i64 0, .int .i64 0, .int .u8 0, .int .i64 0, .int .i64 0, .int .i64 0, .int .i64 0, .bool false, .slice none 0 0, .int .i64 0, .int .i64 0, .bool false] 71))
  have BL := hide hal
  clear hal
  go_upto_region 1 with (fail)
  generalize w.alloc (.cells #[.int .i64 0, .int .i64 0, .int .i64 0, .int .i64 0, .int .i64 0, .int .i64 0, .int .i64 0, .int .i64 0, .int .i64 0, .int .u8 0, .int .i64 0, .int .i64 0, .int .i64 0, .int .i64 0, .bool false, .slice none 0 0, .int .i64 0, .int .i64 0, .bool false] 71) = w1 at *
  generalize hra : w.heap.size = ra at XA ⊢
  have HRA := hide hra
  clear hra
  go_wp2_with fail
  refine (HRT.out _).mono ?_
  rintro e w2 ⟨rfl, rfl⟩
  go_wp2_with fail
  refine (HRD.out _).mono ?_
  rintro e w2 ⟨rfl, hr, hb⟩
  have HRQ := hide hr
  have XA2 := hide ((hb.block _ (heap_lt XA.out)).trans XA.out)
  have BL2 := hide (BL.out.trans (hb.mono BL.out.size))
  have HPN := hide (show ra < w1.heap.size ∧ w.heap.size ≤ w1.heap.size from ⟨heap_lt XA.out, BL.out.size⟩)
  clear hr hb HRD XA BL
  generalize w1.heap.size = p at *
  go_wp2_with fail
  refine (HN1.out _ _ HRQ.out).mono ?_
  rintro e w3 ⟨rfl, hr, ho⟩
  have hp1 : ra ≠ p := by have := HPN.out; omega
  have hal := (Below.refl w3.heap.size w3).alloc (Nat.le_refl _) (.cells (rpC { rp0 with err := (n0 : Int) } (.slice none 0 0)) 71)
  have D0 := hide (show RpF w (w3.alloc (.cells (rpC { rp0 with err := (n0 : Int) } (.slice none 0 0)) 71)) p w3.heap.size ra o1 (l.drop 1) (rpC { rp0 with err := (n0 : Int) } (.slice none 0 0)) from by
    have b3 := ho.below BL2.out HPN.out.2 BL2.out.size
    have x3 := (ho.block _ (heap_lt XA2.out) hp1).trans XA2.out
    have l3 := heap_lt x3
    have p3 := hr.lt
    exact ⟨hr.below hal, heap_new _ _, (hal.block _ l3).trans x3, b3.alloc b3.size _, b3.size, by rw [HRA.out]; exact Nat.le_refl _, HPN.out.2, by omega, by omega, hp1⟩)
  clear hal hr ho XA2 BL2 HRQ HN1
  have HNW := hide (heap_new w3 (.cells (rpC rp0 (.slice none 0 0)) 71))
  go_upto_region 5 with (first | ((with_reducible show wpList _ _ _ _ _ w3); refine wpList_oneBuild rfl 71 (.tmp 17) 0 rfl (.int .i64 (n0 : Int)) rfl (.agg (rpC { rp0 with err := (n0 : Int) } (.slice none 0 0))) (rp_build _ _) ?_) | ((with_reducible show wpList _ _ _ _ _ w3); refine wpList_theAlloc rfl 71 rfl (.pointer (some ⟨w3.heap.size, 0, none⟩)) (w3.alloc (.cells (rpC rp0 (.slice none 0 0)) 71)) (rp_alloc _) ?_) | ((with_reducible show wpList _ _ _ _ _ (World.alloc _ _)); refine wpList_rowStore rfl 71 (.tmp 7) (.tmp 18) rfl w3.heap.size rfl (rpC { rp0 with err := (n0 : Int) } (.slice none 0 0)) rfl (rpC rp0 (.slice none 0 0)) HNW.out (rpC_info _ _) rfl (rpC_one _ _ _ _) ?_))
  rw [World.setRow_alloc_new]
  generalize w3.alloc (.cells (rpC { rp0 with err := (n0 : Int) } (.slice none 0 0)) 71) = w4 at *
  generalize w3.heap.size = rb at *
  have e0 : w4.cell? ⟨rb, 0, none⟩ = some (.int .i64 (n0 : Int)) := (cell_of_block D0.out.box 0).trans (rpC_err _ _)
  by_cases h0 : n0 = 0
  · subst h0
    have HIF := hide (show (o1 = true ∧ repD k (l.drop 1) = true) ↔ parO k l = true from by
      unfold parO
      rw [if_pos HN0.out, Bool.and_eq_true, decide_eq_true_eq, ← HO1.out, Bool.true_and, decide_eq_true_eq])
    have HPR := hide (show parR k l = repR k (l.drop 1) from if_pos HN0.out)
    go_wp2_with fail
    refine (HREAD.out p rb ra o1 (l.drop 1) w w4 D0.out).mono ?_
    rintro e w5 ⟨x, a, c, okv, ok', l', rfl, hf, hln', hiff, hx⟩
    have D1 := hide hf
    have LN1 := hide hln'
    have HIFF := hide hiff
    have HX := hide hx
    clear hf hln' hiff hx e0
    have HEN := hide (rq_end p ok' l' w5 D1.out.rq)
    have HLAST := hide (show ra < max rb ra + 1 from by omega)
    by_cases hd : parO k l = true
    · have HYES := hide hd
      obtain ⟨hd1, hd2⟩ := HIF.out.2 hd
      have HXE := hide (HX.out hd1 hd2)
      obtain ⟨rfl, rfl, rfl⟩ := HIFF.out.2 ⟨hd1, hd2⟩
      clear hd hd1 hd2 HX HIFF
      rw [show endZ true [] = 0 from rfl] at HEN
      go_wp2_with fail
      refine HEN.out.mono ?_
      rintro e w7 ⟨rfl, rfl⟩
      have RS := D1.out.res
      have RX := setRow_self _ _ _ (rpC x (.slice a x.L.length c)) _ _ RS
      have RBX := D1.out.box
      go_wp2_with (first | (refine wpList_rowLoad rfl 71 (.tmp 7) rfl rb rfl 71 (rpC x (.slice a x.L.length c)) (0, 0) _ RBX Try.underlying71 rfl (rpC_info _ _) ?_) | (refine wpList_rowStore rfl 71 (.tmp 4) (.tmp 33) rfl ra rfl (rpC x (.slice a x.L.length c)) rfl (rpC rp0 (.slice none 0 0)) RS (rpC_info _ _) rfl (rpC_one _ _ _ _) ?_))
      (try simp only [Exit.inBlock, Exit.then])
      refine bodyPost_ret (res_cell2 (P := Try.prog) rfl _ _ ra 71 (rpC x (.slice a x.L.length c)) (0, 0) _ rfl RX Try.underlying71 rfl (rpC_info _ _)) rfl ?_
      obtain ⟨y1, y2⟩ := par_yes HYES.out
      rw [HPR.out, ← HXE.out] at y2
      refine ⟨a, c, by rw [y1, y2]; rfl, by rw [y2]; exact (LN1.out.setRow HLAST.out _).in, setRow_low D1.out.below D1.out.new.2.1 _⟩
    · have HDN := hide hd
      cases okv with
      | false =>
        clear hd HX HIFF
        have RS := D1.out.res
        go_wp2_with (refine wpList_rowStore rfl 71 (.tmp 4) (.tmp 32) rfl ra rfl (rpC rp0 (.slice none 0 0)) rfl (rpC rp0 (.slice none 0 0)) RS (rpC_info _ _) rfl (rpC_one _ _ _ _) ?_)
        (try simp only [Exit.inBlock, Exit.then])
        refine bodyPost_ret (res_cell2 (P := Try.prog) rfl _ _ ra 71 (rpC rp0 (.slice none 0 0)) (0, 0) _ rfl (setRow_self _ _ _ _ _ _ RS) Try.underlying71 rfl (rpC_info _ _)) rfl ?_
        obtain ⟨y1, y2⟩ := par_no HDN.out
        refine ⟨none, 0, by rw [y1, y2]; rfl, by rw [y2]; exact fun i hi => absurd hi (Nat.not_lt_zero i), setRow_low D1.out.below D1.out.new.2.1 _⟩
      | true =>
        have hE : ¬ (ok' = true ∧ l' = []) := fun h => hd (HIF.out.1 (HIFF.out.1 ⟨rfl, h⟩))
        rw [show endZ ok' l' = 4 from if_neg hE] at HEN
        clear hE hd HIFF HX
        go_wp2_with fail
        refine HEN.out.mono ?_
        rintro e w7 ⟨rfl, rfl⟩
        have RS := D1.out.res
        go_wp2_with (refine wpList_rowStore rfl 71 (.tmp 4) (.tmp 32) rfl ra rfl (rpC rp0 (.slice none 0 0)) rfl (rpC rp0 (.slice none 0 0)) RS (rpC_info _ _) rfl (rpC_one _ _ _ _) ?_)
        (try simp only [Exit.inBlock, Exit.then])
        refine bodyPost_ret (res_cell2 (P := Try.prog) rfl _ _ ra 71 (rpC rp0 (.slice none 0 0)) (0, 0) _ rfl (setRow_self _ _ _ _ _ _ RS) Try.underlying71 rfl (rpC_info _ _)) rfl ?_
        obtain ⟨y1, y2⟩ := par_no HDN.out
        refine ⟨none, 0, by rw [y1, y2]; rfl, by rw [y2]; exact fun i hi => absurd hi (Nat.not_lt_zero i), setRow_low D1.out.below D1.out.new.2.1 _⟩
  · have n00 : ((n0 : Int) == 0) = false := by rw [beq_eq_false_iff_ne]; omega
    have hln : 1 ≤ l.length := by
      cases l with
      | nil => exact absurd HN0.out (fun h => h0 (by rw [← h]; rfl))
      | cons b l => simp
    have q1 : o1 = true := by rw [← HO1.out]; simp; omega
    subst q1
    have hpo : parO k l = true ↔ l.drop 1 = [] := by
      unfold parO
      rw [decide_eq_true hln, if_neg (fun h => h0 (by rw [← HN0.out]; exact h)), Bool.true_and, decide_eq_true_eq]
      constructor
      · intro h; exact List.drop_of_length_le (by omega)
      · intro h
        have h4 := congrArg List.length h
        rw [List.length_drop] at h4
        simp only [List.length_nil] at h4
        omega
    have HPO := hide hpo
    have HPR := hide (show parR k l = { rp0 with err := n0 } from by unfold parR; rw [if_neg (fun h => h0 (by rw [← HN0.out]; exact h)), HN0.out])
    have HEN := hide (rq_end p true (l.drop 1) w4 D0.out.rq)
    clear hln hpo
    by_cases hd : parO k l = true
    · have HYES := hide hd
      rw [show endZ true (l.drop 1) = 0 from if_pos ⟨rfl, HPO.out.1 hd⟩] at HEN
      clear hd
      go_wp2_with fail
      refine HEN.out.mono ?_
      rintro e w7 ⟨rfl, rfl⟩
      clear e0
      have RS := D0.out.res
      have RX := setRow_self _ _ _ (rpC { rp0 with err := (n0 : Int) } (.slice none 0 0)) _ _ RS
      have RBX := D0.out.box
      go_wp2_with (first | (refine wpList_rowLoad rfl 71 (.tmp 7) rfl rb rfl 71 (rpC { rp0 with err := (n0 : Int) } (.slice none 0 0)) (0, 0) _ RBX Try.underlying71 rfl (rpC_info _ _) ?_) | (refine wpList_rowStore rfl 71 (.tmp 4) (.tmp 33) rfl ra rfl (rpC { rp0 with err := (n0 : Int) } (.slice none 0 0)) rfl (rpC rp0 (.slice none 0 0)) RS (rpC_info _ _) rfl (rpC_one _ _ _ _) ?_))
      (try simp only [Exit.inBlock, Exit.then])
      refine bodyPost_ret (res_cell2 (P := Try.prog) rfl _ _ ra 71 (rpC { rp0 with err := (n0 : Int) } (.slice none 0 0)) (0, 0) _ rfl RX Try.underlying71 rfl (rpC_info _ _)) rfl ?_
      obtain ⟨y1, y2⟩ := par_yes HYES.out
      rw [HPR.out] at y2
      refine ⟨none, 0, by rw [y1, y2]; rfl, by rw [y2]; exact fun i hi => absurd hi (Nat.not_lt_zero i), setRow_low D0.out.below D0.out.new.2.1 _⟩
    · have HDN := hide hd
      rw [show endZ true (l.drop 1) = 4 from if_neg (fun h => hd (HPO.out.2 h.2))] at HEN
      clear hd
      go_wp2_with fail
      refine HEN.out.mono ?_
      rintro e w7 ⟨rfl, rfl⟩
      clear e0
      have RS := D0.out.res
      go_wp2_with (refine wpList_rowStore rfl 71 (.tmp 4) (.tmp 32) rfl ra rfl (rpC rp0 (.slice none 0 0)) rfl (rpC rp0 (.slice none 0 0)) RS (rpC_info _ _) rfl (rpC_one _ _ _ _) ?_)
      (try simp only [Exit.inBlock, Exit.then])
      refine bodyPost_ret (res_cell2 (P := Try.prog) rfl _ _ ra 71 (rpC rp0 (.slice none 0 0)) (0, 0) _ rfl (setRow_self _ _ _ _ _ _ RS) Try.underlying71 rfl (rpC_info _ _)) rfl ?_
      obtain ⟨y1, y2⟩ := par_no HDN.out
      refine ⟨none, 0, by rw [y1, y2]; rfl, by rw [y2]; exact fun i hi => absurd hi (Nat.not_lt_zero i), setRow_low D0.out.below D0.out.new.2.1 _⟩
end Go.Proofs.Ytkbikflincjhhaa
