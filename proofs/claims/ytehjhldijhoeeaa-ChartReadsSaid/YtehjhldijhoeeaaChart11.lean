/-
  Layer 21: a chart of bytes; the program's Read.
-/
import Derived.Test.YtehjhldijhoeeaaChart10
import Derived.Test.YtehjhldijhoeeaaRQ

namespace Go.Proofs.Ytehjhldijhoeeaa
set_option linter.unusedSimpArgs false
set_option linter.unusedVariables false
open Go.RowKit Go.WideShapes Go.ChangeShapes Go.ChangeAt Go.Deep
def hasA (l : List UInt8) : Prop := 4 ≤ l.length ∧ 4 + (l.getD 3 0).toNat ≤ l.length
instance (l : List UInt8) : Decidable (hasA l) := inferInstanceAs (Decidable (_ ∧ _))
def acR (l : List UInt8) : AcM := ⟨(getN (l.take 2) : Int), ((l.getD 2 0).toNat : Int), bs ((l.drop 4).take (l.getD 3 0).toNat)⟩
def restA (l : List UInt8) : List UInt8 := l.drop (4 + (l.getD 3 0).toNat)
def lastC (M : List AcM) : Int := ((M.getLast?).map (·.code)).getD 0
def goodA (M : List AcM) (l : List UInt8) : Prop := hasA l ∧ lastC M < (acR l).code ∧ addE M (acR l) = 0
instance (M : List AcM) (l : List UInt8) : Decidable (goodA M l) := inferInstanceAs (Decidable (_ ∧ _ ∧ _))
/-- so many accounts of bytes, behind others -/
def rdA : Nat → List UInt8 → List AcM → Option (List AcM × List UInt8)
  | 0, l, M => some (M, l)
  | k + 1, l, M => if goodA M l then rdA k (restA l) (M ++ [acR l]) else none
/-- a chart of bytes -/
def chR (t : List UInt8) : Option (List AcM × List UInt8) := if 1 ≤ t.length then rdA (t.getD 0 0).toNat (t.drop 1) [] else none
theorem rdA_yes {k : Nat} {l : List UInt8} {M : List AcM} (h : goodA M l) : rdA (k + 1) l M = rdA k (restA l) (M ++ [acR l]) := if_pos h
theorem rdA_no {k : Nat} {l : List UInt8} {M : List AcM} (h : ¬ goodA M l) : rdA (k + 1) l M = none := if_neg h
theorem lastC_top {M : List AcM} (h : RisesA M) {x : AcM} (hx : x ∈ M) : x.code ≤ lastC M := by
  unfold lastC
  cases hl : M.getLast? with
  | none => rw [List.getLast?_eq_none_iff] at hl; subst hl; cases hx
  | some y =>
    obtain ⟨L, rfl⟩ := List.getLast?_eq_some_iff.1 hl
    show x.code ≤ y.code
    rcases List.mem_append.1 hx with h1 | h1
    · have := (List.pairwise_append.1 h).2.2 x h1 y (by simp)
      omega
    · simp at h1; subst h1; exact Int.le_refl _
theorem insA_end {M : List AcM} {x : AcM} (h : RisesA M) (hx : lastC M < x.code) : insA M x = M ++ [x] := by
  refine insA_last ?_
  rw [List.any_eq_false]
  intro y hy
  have := lastC_top h hy
  simp; omega
theorem lastC_snoc (M : List AcM) (x : AcM) : lastC (M ++ [x]) = x.code := by unfold lastC; simp
theorem good_next {M : List AcM} {l : List UInt8} (hr : RisesA M) (h : goodA M l) : addM M (acR l) = M ++ [acR l] := by
  unfold addM
  rw [if_pos h.2.2, insA_end hr h.2.1]
/-- what the program reads of an account -/
def acP (l : List UInt8) : AcM := ⟨(vN true l 2 : Int), (vN (true && decide (2 ≤ l.length)) (l.drop 2) 1 : Int), txV ((true && decide (2 ≤ l.length)) && decide (1 ≤ (l.drop 2).length)) ((l.drop 2).drop 1)⟩
def okP (l : List UInt8) : Bool := txOk ((true && decide (2 ≤ l.length)) && decide (1 ≤ (l.drop 2).length)) ((l.drop 2).drop 1)
theorem drop3 (l : List UInt8) : ((l.drop 2).drop 1).getD 0 0 = l.getD 3 0 := by simp [List.getD, List.drop_drop]
theorem acP_yes {l : List UInt8} (h : hasA l) : acP l = acR l ∧ okP l = true ∧ ((l.drop 2).drop 1).drop (1 + (((l.drop 2).drop 1).getD 0 0).toNat) = restA l := by
  obtain ⟨h1, h2⟩ := h
  have e1 : decide (2 ≤ l.length) = true := decide_eq_true (by omega)
  have e2 : decide (1 ≤ (l.drop 2).length) = true := decide_eq_true (by rw [List.length_drop]; omega)
  have e3 : txOk true ((l.drop 2).drop 1) = true := by
    unfold txOk
    rw [drop3, Bool.true_and, List.length_drop, List.length_drop]
    exact decide_eq_true ⟨by omega, by omega⟩
  refine ⟨?_, ?_, ?_⟩
  · unfold acP acR
    rw [e1, e2, Bool.and_self, Bool.and_self]
    congr 1
    · rw [show vN true l 2 = getN (l.take 2) from if_pos ⟨rfl, by omega⟩]
    · rw [show vN true (l.drop 2) 1 = getN ((l.drop 2).take 1) from if_pos ⟨rfl, by rw [List.length_drop]; omega⟩]
      have : (l.drop 2).take 1 = [l.getD 2 0] := by
        have hl2 : 2 < l.length := by omega
        rw [List.drop_eq_getElem_cons hl2]
        show [l[2]] = [l.getD 2 0]
        rw [show l.getD 2 0 = l[2] by simp [List.getD, hl2]]
      rw [this]
      simp [getN]
    · unfold txV
      rw [if_pos e3, drop3, List.drop_drop, List.drop_drop]
  · unfold okP
    rw [e1, e2]; exact e3
  · rw [drop3, List.drop_drop, List.drop_drop]
    unfold restA
    congr 1; omega
theorem acP_no {l : List UInt8} (h : ¬ hasA l) : rightB (acP l) = false := by
  refine aright_out fun hg => h ?_
  obtain ⟨g1, -, g3, -, g5, -⟩ := hg
  have h2 : 2 ≤ l.length := by
    by_cases hh : 2 ≤ l.length
    · exact hh
    · exfalso
      have : (acP l).code = 0 := by unfold acP; rw [show vN true l 2 = 0 from if_neg (fun h => hh h.2)]; rfl
      omega
  have h3 : 1 ≤ (l.drop 2).length := by
    by_cases hh : 1 ≤ (l.drop 2).length
    · exact hh
    · exfalso
      have : (acP l).kind = 0 := by unfold acP; rw [show vN (true && decide (2 ≤ l.length)) (l.drop 2) 1 = 0 from if_neg (fun h => hh h.2)]; rfl
      omega
  by_cases ht : okP l = true
  · unfold okP txOk at ht
    rw [drop3, Bool.and_eq_true, decide_eq_true_eq] at ht
    have ht2 := ht.2
    simp only [List.length_drop] at ht2 h3
    exact ⟨by omega, by omega⟩
  · exfalso
    have : (acP l).name.size = 0 := by
      unfold acP txV
      dsimp only
      rw [if_neg (show ¬ txOk ((true && decide (2 ≤ l.length)) && decide (1 ≤ (l.drop 2).length)) ((l.drop 2).drop 1) = true from ht)]; rfl
    omega
theorem acP_ok (l : List UInt8) : AcOk (acP l) := by
  have h1 := vN_lt true l 2
  have h2 := vN_lt (true && decide (2 ≤ l.length)) (l.drop 2) 1
  refine ⟨⟨by unfold acP; dsimp only; omega, by unfold acP; dsimp only; omega⟩, ⟨by unfold acP; dsimp only; omega, by unfold acP; dsimp only; omega⟩, ?_⟩
  unfold acP txV
  dsimp only
  split
  · rw [bs_size, List.length_take]
    have := UInt8.toNat_lt (((l.drop 2).drop 1).getD 0 0)
    omega
  · show 0 ≤ _; decide
/-- the program stops, or goes on with the account of the bytes -/
theorem step_prog (M : List AcM) (l : List UInt8) : (goodA M l ∧ lastC M < (acP l).code ∧ addE M (acP l) = 0 ∧ acP l = acR l ∧ okP l = true) ∨ (¬ goodA M l ∧ ((acP l).code ≤ lastC M ∨ (lastC M < (acP l).code ∧ addE M (acP l) ≠ 0))) := by
  by_cases h : hasA l
  · obtain ⟨e1, e2, -⟩ := acP_yes h
    rw [e1, e2]
    by_cases hg : goodA M l
    · exact Or.inl ⟨hg, hg.2.1, hg.2.2, rfl, rfl⟩
    · refine Or.inr ⟨hg, ?_⟩
      by_cases hc : lastC M < (acR l).code
      · exact Or.inr ⟨hc, fun he => hg ⟨h, hc, he⟩⟩
      · exact Or.inl (by omega)
  · refine Or.inr ⟨fun hg => h hg.1, ?_⟩
    by_cases hc : lastC M < (acP l).code
    · refine Or.inr ⟨hc, ?_⟩
      unfold addE
      rw [if_pos (acP_no h)]; decide
    · exact Or.inl (by omega)
theorem RQ.only {W W' : World} {p q : Nat} {ok : Bool} {l : List UInt8} (h : RQ W p ok l) (ho : Only q W W') (hq : p ≠ q) : RQ W' p ok l := by
  obtain ⟨s, h1, h2⟩ := h
  exact ⟨s, h1.only ho hq, h2⟩
/-- what Read tells -/
def ChReadIs (r : Nat) (t : List UInt8) (w : World) (e : Ending) (w' : World) : Prop :=
  ((chR t = none ∧ e = .returned (.tuple #[.pointer none, .int .i64 4])) ∨ ∃ (M : List AcM) (rest : List UInt8) (p bm : Nat), chR t = some (M, rest) ∧ e = .returned (.tuple #[.pointer (some ⟨p, 0, none⟩), .int .i64 0]) ∧ ChartIs w' p bm M ∧ RQ w' r true rest ∧ w.heap.size ≤ p ∧ w.heap.size ≤ bm) ∧ Only r w w'
set_option maxRecDepth 100000 in
set_option maxHeartbeats 1000000 in
theorem chread_any (r : Nat) (t : List UInt8) (w : World) (h : RQ w r true t) :
    Calls Try.prog 21 #[.pointer (some ⟨r, 0, none⟩)] w (ChReadIs r t w) := by
  obtain ⟨s0, hrd, hs0, hz⟩ := h
  have hs := hs0 rfl
  subst hs
  rw [show (!true) = false from rfl] at hrd
  have R0 := hide hrd
  obtain ⟨e0, e1, g0, g1⟩ := hrd.cells
  have HLT := hide (heap_lt hrd.row)
  have HZ := hide hz
  clear hs0 hz hrd
  go_enter Try.func21, Try.ntmps21
  go_wp2_with fail
  refine (wrong_any r (bs t) false w R0.out).mono ?_
  rintro e w1 ⟨rfl, rfl⟩
  have hal := (Below.refl w.heap.size w).alloc (Nat.le_refl _) (.cells #[.string (bs t), .bool false] 80)
  have Q1 := hide (show RQ (w.alloc (.cells #[.string (bs t), .bool false] 80)) w.heap.size true t from ⟨bs t, RdAt.new w (bs t), fun _ => rfl, HZ.out⟩)
  have R1 := hide (R0.out.below hal)
  have B1 := hide hal
  clear hal
  go_upto_region 4 with (fail)
  generalize w.alloc (.cells #[.string (bs t), .bool false] 80) = w1 at *
  generalize hh : w.heap.size = hd at Q1 HLT ⊢
  have HH := hide hh
  clear hh e0 e1 g0 g1 R0
  go_wp2_with fail
  refine (chNew _).mono ?_
  rintro e w2 ⟨p, bm, rfl, hc, hl1, hl2, hb⟩
  have C2 := hide hc
  have Q2 := hide (Q1.out.below hb)
  have R2 := hide (R1.out.below hb)
  have B2 := hide (B1.out.trans (hb.mono B1.out.size))
  have HPB := hide (show w.heap.size ≤ p ∧ w.heap.size ≤ bm ∧ hd ≠ p ∧ hd ≠ bm from by have := Q1.out.lt; have := B1.out.size; omega)
  clear hc hl1 hl2 hb Q1 R1 B1
  go_wp2_with fail
  refine (rq_number hd true t 1 (by decide) (by decide) _ Q2.out).mono ?_
  rintro e w3 ⟨rfl, hq, ho⟩
  have C3 := hide (C2.out.only ho HPB.out.2.2.1.symm HPB.out.2.2.2.symm)
  have Q3 := hide hq
  have R3 := hide (R2.out.only ho (by have := HLT.out; omega))
  have B3 := hide (ho.below B2.out (by rw [HH.out]; exact Nat.le_refl _) B2.out.size)
  clear hq ho C2 Q2 R2 B2
  by_cases h1 : 1 ≤ t.length
  · rw [decide_eq_true h1, Bool.true_and] at Q3
    have hvn : vN true t 1 = (t.getD 0 0).toNat := by
      rw [show vN true t 1 = getN (t.take 1) from if_pos ⟨rfl, h1⟩]
      cases t with
      | nil => simp at h1
      | cons b t => simp [getN]
    have hn255 : (t.getD 0 0).toNat < 256 := UInt8.toNat_lt _
    have HCH := hide (show chR t = rdA (t.getD 0 0).toNat (t.drop 1) [] from if_pos h1)
    rw [hvn]
    generalize (t.getD 0 0).toNat = n at *
    clear hvn h1
    generalize t.drop 1 = l0 at *
    go_wp2_with fail
    go_loopw [6, 15] (fun la i W => ∃ (m : Nat) (M : List AcM) (l : List UInt8), m ≤ n ∧ i = .int .u64 m ∧ la = .int .i64 (lastC M) ∧ rdA (n - m) l M = chR t ∧ ChartIs W p bm M ∧ RQ W hd true l ∧ RdAt W r (bs t) false ∧ Below w.heap.size w W) (fun _ i _ => n - (Go.RowKit.intOf i).toNat)
    case atStart => exact ⟨0, [], l0, by omega, rfl, rfl, HCH.out.symm, C3.out, Q3.out, R3.out, B3.out⟩
    case round =>
      obtain ⟨m, M, l, hm, rfl, rfl, hre, hc, hq, hrr, hb⟩ := hrel
      have HRE := hide hre
      have CM := hide hc
      have QM := hide hq
      have RM := hide hrr
      have BM := hide hb
      clear hre hc hq hrr hb C3 Q3 R3 B3
      by_cases hlt : m < n
      · have HLTM := hide hlt
        have hal := (Below.refl wr.heap.size wr).alloc (Nat.le_refl _) (.cells #[.int .i64 0, .int .u8 0, .string ⟨#[]⟩] 31)
        have X4 := hide (heap_new wr (.cells #[.int .i64 0, .int .u8 0, .string ⟨#[]⟩] 31))
        have C4 := hide (CM.out.below hal)
        have Q4 := hide (QM.out.below hal)
        have R4 := hide (RM.out.below hal)
        have B4 := hide (BM.out.trans (hal.mono BM.out.size))
        have HQQ := hide (show w.heap.size ≤ wr.heap.size ∧ hd ≠ wr.heap.size ∧ p ≠ wr.heap.size ∧ bm ≠ wr.heap.size ∧ r ≠ wr.heap.size from by
          have a1 := BM.out.size; have a2 := QM.out.lt; have a3 := CM.out.lt; have a4 := heap_lt RM.out.row
          omega)
        clear hal CM QM RM BM
        go_upto_region 9 with (fail)
        generalize wr.alloc (.cells #[.int .i64 0, .int .u8 0, .string ⟨#[]⟩] 31) = w4 at *
        generalize wr.heap.size = q at *
        have HN1 := hide (fun W h => rq_number hd true l 2 (by decide) (by decide) W h)
        have HN2 := hide (fun W h => rq_number hd (true && decide (2 ≤ l.length)) (l.drop 2) 1 (by decide) (by decide) W h)
        have HN3 := hide (fun W h => rq_text hd ((true && decide (2 ≤ l.length)) && decide (1 ≤ (l.drop 2).length)) ((l.drop 2).drop 1) W h)
        unfold RNIs at HN1 HN2
        unfold RTIs at HN3
        have b1 := vN_lt true l 2
        have b2 := vN_lt (true && decide (2 ≤ l.length)) (l.drop 2) 1
        have HST := hide (step_prog M l)
        have HYS := hide (fun h => @acP_yes l h)
        have HAO := hide (acP_ok l)
        have HOKP := hide (show okP l = txOk ((true && decide (2 ≤ l.length)) && decide (1 ≤ (l.drop 2).length)) ((l.drop 2).drop 1) from rfl)
        have HEY := hide (show acP l = ⟨(vN true l 2 : Int), (vN (true && decide (2 ≤ l.length)) (l.drop 2) 1 : Int), txV ((true && decide (2 ≤ l.length)) && decide (1 ≤ (l.drop 2).length)) ((l.drop 2).drop 1)⟩ from rfl)
        generalize vN true l 2 = v1 at *
        generalize vN (true && decide (2 ≤ l.length)) (l.drop 2) 1 = v2 at *
        generalize txV ((true && decide (2 ≤ l.length)) && decide (1 ≤ (l.drop 2).length)) ((l.drop 2).drop 1) = v3 at *
        generalize ((l.drop 2).drop 1).drop (1 + (((l.drop 2).drop 1).getD 0 0).toNat) = l3 at *
        generalize txOk ((true && decide (2 ≤ l.length)) && decide (1 ≤ (l.drop 2).length)) ((l.drop 2).drop 1) = ok3 at *
        have hw1 : wrap64 (v1 : Int) = (v1 : Int) := by unfold wrap64; omega
        have hw1' : IntKind.i64.wrap (v1 : Int) = (v1 : Int) := by rw [IntKind.wrap_i64]; omega
        have hw2 : IntKind.u8.wrap (v2 : Int) = (v2 : Int) := by rw [IntKind.wrap_u8]; omega
        clear b1 b2
        go_wp2_with fail
        refine (HN1.out _ Q4.out).mono ?_
        rintro e w5 ⟨rfl, hq, ho⟩
        have X5 := hide ((ho.block _ (heap_lt X4.out) (fun e => HQQ.out.2.1 e.symm)).trans X4.out)
        have C5 := hide (C4.out.only ho HPB.out.2.2.1.symm HPB.out.2.2.2.symm)
        have Q5 := hide hq
        have R5 := hide (R4.out.only ho (by have := HLT.out; omega))
        have B5 := hide (ho.below B4.out (by rw [HH.out]; exact Nat.le_refl _) B4.out.size)
        clear hq ho X4 C4 Q4 R4 B4 HN1
        have e0 := cell_of_block X5.out 0
        have f0 := frozen_of_block X5.out 0
        go_upto_region 10 with (fail)
        have X6 := hide (show (w5.setCell ⟨q, 0, none⟩ (.int .i64 (v1 : Int))).heap[q]? = some (.cells #[.int .i64 (v1 : Int), .int .u8 0, .string ⟨#[]⟩] 31 (0, 0)) from block_setCell X5.out 0 (.int .i64 (v1 : Int)))
        have C6 := hide (show ChartIs (w5.setCell ⟨q, 0, none⟩ (.int .i64 (v1 : Int))) p bm M from C5.out.kept (block_setCell_other HQQ.out.2.2.1.symm 0 _) (block_setCell_other HQQ.out.2.2.2.1.symm 0 _))
        have Q6 := hide (Q5.out.other (Ne.symm HQQ.out.2.1) 0 (.int .i64 (v1 : Int)))
        have R6 := hide (show RdAt (w5.setCell ⟨q, 0, none⟩ (.int .i64 (v1 : Int))) r (bs t) false from ⟨(block_setCell_other HQQ.out.2.2.2.2.symm 0 _).trans R5.out.row⟩)
        have B6 := hide (B5.out.setCell (p := ⟨q, 0, none⟩) HQQ.out.1 (.int .i64 (v1 : Int)))
        clear X5 C5 Q5 R5 B5 e0 f0
        generalize w5.setCell ⟨q, 0, none⟩ (.int .i64 (v1 : Int)) = w6 at *
        go_wp2_with fail
        refine (HN2.out _ Q6.out).mono ?_
        rintro e w7 ⟨rfl, hq, ho⟩
        have X7 := hide ((ho.block _ (heap_lt X6.out) (fun e => HQQ.out.2.1 e.symm)).trans X6.out)
        have C7 := hide (C6.out.only ho HPB.out.2.2.1.symm HPB.out.2.2.2.symm)
        have Q7 := hide hq
        have R7 := hide (R6.out.only ho (by have := HLT.out; omega))
        have B7 := hide (ho.below B6.out (by rw [HH.out]; exact Nat.le_refl _) B6.out.size)
        clear hq ho X6 C6 Q6 R6 B6 HN2
        have e1 := cell_of_block X7.out 1
        have f1 := frozen_of_block X7.out 1
        go_upto_region 11 with (fail)
        have X8 := hide (show (w7.setCell ⟨q, 1, none⟩ (.int .u8 (v2 : Int))).heap[q]? = some (.cells #[.int .i64 (v1 : Int), .int .u8 (v2 : Int), .string ⟨#[]⟩] 31 (0, 0)) from block_setCell X7.out 1 (.int .u8 (v2 : Int)))
        have C8 := hide (show ChartIs (w7.setCell ⟨q, 1, none⟩ (.int .u8 (v2 : Int))) p bm M from C7.out.kept (block_setCell_other HQQ.out.2.2.1.symm 1 _) (block_setCell_other HQQ.out.2.2.2.1.symm 1 _))
        have Q8 := hide (Q7.out.other (Ne.symm HQQ.out.2.1) 1 (.int .u8 (v2 : Int)))
        have R8 := hide (show RdAt (w7.setCell ⟨q, 1, none⟩ (.int .u8 (v2 : Int))) r (bs t) false from ⟨(block_setCell_other HQQ.out.2.2.2.2.symm 1 _).trans R7.out.row⟩)
        have B8 := hide (B7.out.setCell (p := ⟨q, 1, none⟩) HQQ.out.1 (.int .u8 (v2 : Int)))
        clear X7 C7 Q7 R7 B7 e1 f1
        generalize w7.setCell ⟨q, 1, none⟩ (.int .u8 (v2 : Int)) = w8 at *
        go_wp2_with fail
        refine (HN3.out _ Q8.out).mono ?_
        rintro e w9 ⟨rfl, hq, ho⟩
        have X9 := hide ((ho.block _ (heap_lt X8.out) (fun e => HQQ.out.2.1 e.symm)).trans X8.out)
        have C9 := hide (C8.out.only ho HPB.out.2.2.1.symm HPB.out.2.2.2.symm)
        have Q9 := hide hq
        have R9 := hide (R8.out.only ho (by have := HLT.out; omega))
        have B9 := hide (ho.below B8.out (by rw [HH.out]; exact Nat.le_refl _) B8.out.size)
        clear hq ho X8 C8 Q8 R8 B8 HN3
        have e2 := cell_of_block X9.out 2
        have f2 := frozen_of_block X9.out 2
        go_upto_region 12 with (fail)
        have Xa := hide (show (w9.setCell ⟨q, 2, none⟩ (.string v3)).heap[q]? = some (.cells #[.int .i64 (v1 : Int), .int .u8 (v2 : Int), .string v3] 31 (0, 0)) from block_setCell X9.out 2 (.string v3))
        have Ca := hide (show ChartIs (w9.setCell ⟨q, 2, none⟩ (.string v3)) p bm M from C9.out.kept (block_setCell_other HQQ.out.2.2.1.symm 2 _) (block_setCell_other HQQ.out.2.2.2.1.symm 2 _))
        have Qa := hide (Q9.out.other (Ne.symm HQQ.out.2.1) 2 (.string v3))
        have Ra := hide (show RdAt (w9.setCell ⟨q, 2, none⟩ (.string v3)) r (bs t) false from ⟨(block_setCell_other HQQ.out.2.2.2.2.symm 2 _).trans R9.out.row⟩)
        have Ba := hide (B9.out.setCell (p := ⟨q, 2, none⟩) HQQ.out.1 (.string v3))
        clear X9 C9 Q9 R9 B9 e2 f2 hw1 hw1' hw2
        generalize w9.setCell ⟨q, 2, none⟩ (.string v3) = wa at *
        have HADD := hide (fun W h => chadd_any p bm M (acP l) HAO.out W h)
        rw [HEY.out] at HADD HST HYS
        unfold acV at HADD
        dsimp only at HADD HST
        have e0 : wa.cell? ⟨q, 0, none⟩ = some (.int .i64 (v1 : Int)) := cell_of_block Xa.out 0
        have e1 : wa.cell? ⟨q, 1, none⟩ = some (.int .u8 (v2 : Int)) := cell_of_block Xa.out 1
        have e2 : wa.cell? ⟨q, 2, none⟩ = some (.string v3) := cell_of_block Xa.out 2
        obtain ⟨k, hk⟩ : ∃ k, n - m = k + 1 := ⟨n - m - 1, by omega⟩
        rw [hk] at HRE
        have HK := hide hk
        clear hk
        rcases HST.out with ⟨hg, hgt, hae, hac, hok⟩ | ⟨hg, hbad⟩
        · have hle : decide ((v1 : Int) ≤ lastC M) = false := decide_eq_false (by omega)
          obtain ⟨-, -, hl3⟩ := HYS.out hg.1
          have HRE2 := hide ((rdA_yes hg).symm.trans HRE.out)
          have HAM := hide (good_next Ca.out.rises hg)
          rw [← hac, ← hl3] at HRE2
          rw [← hac] at HAM
          rw [hae, HAM.out] at HADD
          have HLC := hide (show lastC (M ++ [(⟨(v1 : Int), (v2 : Int), v3⟩ : AcM)]) = (v1 : Int) from lastC_snoc _ _)
          have hok3 : ok3 = true := HOKP.out.symm.trans hok
          subst hok3
          clear hgt hae hok hg hac hl3 HAM HST HYS HRE HEY HOKP
          go_wp2_with fail
          refine (HADD.out _ Ca.out).mono ?_
          rintro e wb ⟨rfl, hc, ho⟩
          have Cb := hide hc
          have Xb := hide ((ho.block _ (heap_lt Xa.out) (fun e => HQQ.out.2.2.2.1 e.symm)).trans Xa.out)
          have Qb := hide (Qa.out.only ho HPB.out.2.2.2)
          have Rb := hide (Ra.out.only ho (by have := HPB.out; have := HLT.out; have := HH.out; omega))
          have Bb := hide (ho.below Ba.out HPB.out.2.1 Ba.out.size)
          clear hc ho Ca Xa Qa Ra Ba HADD e0 e1 e2
          have e0 : wb.cell? ⟨q, 0, none⟩ = some (.int .i64 (v1 : Int)) := cell_of_block Xb.out 0
          go_wp2_with fail
          go_roundw
          case rel => exact ⟨m + 1, _, l3, HLTM.out, by go_num, by rw [HLC.out], by rw [show n - (m + 1) = k by have := HK.out; omega]; exact HRE2.out, Cb.out, Qb.out, Rb.out, Bb.out⟩
          case measure => have := HLTM.out; simp [Go.RowKit.intOf]; omega
        · have HNONE := hide ((rdA_no hg).symm.trans HRE.out)
          clear hg HYS HRE HEY HOKP HST
          rcases hbad with hle | ⟨hgt, hne⟩
          · have hled : decide ((v1 : Int) ≤ lastC M) = true := decide_eq_true hle
            clear hle
            go_wp2_with fail
            go_ret2
            exact ⟨Or.inl ⟨HNONE.out.symm, rfl⟩, Only.of_below Ba.out⟩
          · have hled : decide ((v1 : Int) ≤ lastC M) = false := decide_eq_false (by omega)
            generalize addE M ⟨(v1 : Int), (v2 : Int), v3⟩ = ae at *
            have hneb : (ae == 0) = false := beq_eq_false_iff_ne.mpr hne
            clear hgt hne
            go_wp2_with fail
            refine (HADD.out _ Ca.out).mono ?_
            rintro e wb ⟨rfl, hc, ho⟩
            have Bb := hide (ho.below Ba.out HPB.out.2.1 Ba.out.size)
            clear hc ho
            go_wp2_with fail
            go_ret2
            exact ⟨Or.inl ⟨HNONE.out.symm, rfl⟩, Only.of_below Bb.out⟩
      · obtain rfl : n = m := by omega
        rw [Nat.sub_self] at HRE
        have HSO := hide (show chR t = some (M, l) from HRE.out.symm)
        clear hlt HRE
        obtain ⟨sl, hsr, hse, hsz⟩ := QM.out
        have hsl := hse rfl
        subst hsl
        have RH := hide (show RdAt wr hd (bs l) false from hsr)
        have HSZ := hide hsz
        clear hsr hse hsz
        go_wp2_with fail
        refine (wrong_any hd (bs l) false wr RH.out).mono ?_
        rintro e wb ⟨rfl, rfl⟩
        obtain ⟨e0, e1, -, -⟩ := RH.out.cells
        obtain ⟨d0, d1, g0, g1⟩ := RM.out.cells
        go_wp2_with fail
        go_ret2
        refine ⟨Or.inr ⟨M, l, p, bm, HSO.out, rfl, ?_, ?_, HPB.out.1, HPB.out.2.1⟩, ?_⟩
        · have hrp : r ≠ p ∧ r ≠ bm := by have := HPB.out; have := HLT.out; have := HH.out; omega
          exact CM.out.kept ((block_setCell_other hrp.1 1 _).trans (block_setCell_other hrp.1 0 _)) ((block_setCell_other hrp.2 1 _).trans (block_setCell_other hrp.2 0 _))
        · exact ⟨bs l, ⟨block_setCell (block_setCell RM.out.row 0 _) 1 _⟩, fun _ => rfl, HSZ.out⟩
        · exact ((Only.of_below BM.out).trans (Only.setCell r 0 _)).trans (Only.setCell r 1 _)
  · have hN : (true && decide (1 ≤ t.length)) = false := by rw [decide_eq_false h1]; rfl
    rw [hN] at Q3
    have hv : vN true t 1 = 0 := if_neg (fun h => h1 h.2)
    rw [hv]
    have HNO := hide (show chR t = none from if_neg h1)
    obtain ⟨sl, hsr, -, -⟩ := Q3.out
    have RH := hide (show RdAt w3 hd sl true from hsr)
    clear hsr hN hv h1 Q3 R3
    go_wp2_with fail
    go_loopw [15] (fun i W => i = .int .u64 0 ∧ w3 = W) (fun _ _ => 0)
    case atStart => exact ⟨rfl, rfl⟩
    case round =>
      obtain ⟨rfl, rfl⟩ := hrel
      go_wp2_with fail
      refine (wrong_any hd sl true w3 RH.out).mono ?_
      rintro e wb ⟨rfl, rfl⟩
      go_wp2_with fail
      go_ret2
      exact ⟨Or.inl ⟨HNO.out, rfl⟩, Only.of_below B3.out⟩
end Go.Proofs.Ytehjhldijhoeeaa
