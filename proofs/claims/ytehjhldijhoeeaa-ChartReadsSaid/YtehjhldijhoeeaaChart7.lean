/-
  Layer 21: the document's Right and Add.
-/
import Derived.Test.YtehjhldijhoeeaaChart6

namespace Go.Proofs.Ytehjhldijhoeeaa
set_option linter.unusedSimpArgs false
set_option linter.unusedVariables false
open Go.RowKit Go.WideShapes Go.ChangeShapes Go.ChangeAt Go.Deep
theorem aright_out {x : AcM} (h : ¬ (1 ≤ x.code ∧ x.code ≤ 65535 ∧ 1 ≤ x.kind ∧ x.kind ≤ 5 ∧ 1 ≤ x.name.size ∧ x.name.size ≤ 24)) : rightB x = false := by
  unfold rightB
  rw [decide_eq_false h, Bool.and_false]
set_option maxRecDepth 100000 in
set_option maxHeartbeats 800000 in
theorem rright_any (x : AcM) (hx : AcOk x) (w : World) :
    Calls Try.prog 10 #[acV x] w fun e w' => e = .returned (.bool (rightB x)) ∧ Below w.heap.size w w' := by
  have HNO := hide (fun i h hb => @aright_no x i h hb)
  have HYES := hide (fun h => @aright_all x h)
  have HOUT := hide (fun h => @aright_out x h)
  have HX := hide hx
  generalize rightB x = rb at *
  clear hx
  obtain ⟨c, k, s⟩ := x
  unfold acV
  dsimp only at *
  have hal := (Below.refl w.heap.size w).alloc (Nat.le_refl _) (.cells #[.int .i64 c, .int .u8 k, .string s] 34)
  have X1 := hide (heap_new w (.cells #[.int .i64 c, .int .u8 k, .string s] 34))
  have B1 := hide hal
  clear hal
  go_enter Try.func10, Try.ntmps10
  go_upto_region 1 with (fail)
  generalize w.alloc (.cells #[.int .i64 c, .int .u8 k, .string s] 34) = w1 at *
  generalize hq : w.heap.size = q at X1 ⊢
  clear hq
  have e0 : w1.cell? ⟨q, 0, none⟩ = some (.int .i64 c) := cell_of_block X1.out 0
  have e1 : w1.cell? ⟨q, 1, none⟩ = some (.int .u8 k) := cell_of_block X1.out 1
  have e2 : w1.cell? ⟨q, 2, none⟩ = some (.string s) := cell_of_block X1.out 2
  obtain ⟨⟨c1, c2⟩, ⟨k1, k2⟩, n1⟩ := HX.out
  dsimp only at c1 c2 k1 k2 n1
  by_cases h1 : c < 1
  · have hf := hide (HOUT.out (fun h => by omega))
    have g : decide (c < 1) = true := decide_eq_true h1
    go_wp2_with fail
    go_ret
    exact ⟨ret_boolb hf.out.symm, B1.out⟩
  · by_cases h2 : 65535 < c
    · have hf := hide (HOUT.out (fun h => by omega))
      have g : decide (c < 1) = false := decide_eq_false h1
      have g' : decide (c > 65535) = true := decide_eq_true h2
      go_wp2_with fail
      go_ret
      exact ⟨ret_boolb hf.out.symm, B1.out⟩
    · have g1 : decide (c < 1) = false := decide_eq_false h1
      have g2 : decide (c > 65535) = false := decide_eq_false h2
      by_cases h3 : k < 1
      · have hf := hide (HOUT.out (fun h => by omega))
        have g : decide (k < 1) = true := decide_eq_true h3
        go_wp2_with fail
        go_ret
        exact ⟨ret_boolb hf.out.symm, B1.out⟩
      · by_cases h4 : 5 < k
        · have hf := hide (HOUT.out (fun h => by omega))
          have g : decide (k < 1) = false := decide_eq_false h3
          have g' : decide (k > 5) = true := decide_eq_true h4
          go_wp2_with fail
          go_ret
          exact ⟨ret_boolb hf.out.symm, B1.out⟩
        · have g3 : decide (k < 1) = false := decide_eq_false h3
          have g4 : decide (k > 5) = false := decide_eq_false h4
          by_cases h5 : (s.size : Int) < 1
          · have hf := hide (HOUT.out (fun h => by omega))
            have g : decide ((s.size : Int) < 1) = true := decide_eq_true h5
            go_wp2_with fail
            go_ret
            exact ⟨ret_boolb hf.out.symm, B1.out⟩
          · by_cases h6 : (s.size : Int) > 24
            · have hf := hide (HOUT.out (fun h => by omega))
              have g : decide ((s.size : Int) < 1) = false := decide_eq_false h5
              have g' : decide ((s.size : Int) > 24) = true := decide_eq_true h6
              go_wp2_with fail
              go_ret
              exact ⟨ret_boolb hf.out.symm, B1.out⟩
            · have g5 : decide ((s.size : Int) < 1) = false := decide_eq_false h5
              have g6 : decide ((s.size : Int) > 24) = false := decide_eq_false h6
              have HALLC := hide (show 1 ≤ c ∧ c ≤ 65535 ∧ 1 ≤ k ∧ k ≤ 5 ∧ 1 ≤ s.size ∧ s.size ≤ 24 from by omega)
              go_wp2_with fail
              clear h1 h2 h3 h4 h5 h6 g1 g2 g3 g4 g5 g6 c1 c2 k1 k2 n1 HOUT HX e0 e1
              have hs24 : s.size ≤ 24 := HALLC.out.2.2.2.2.2
              go_loopw [3] (fun i W => ∃ m : Nat, m ≤ s.size ∧ i = .int .i64 m ∧ w1 = W ∧ ∀ j (hj : j < s.size), j < m → 32 ≤ (s[j]'hj).toNat ∧ (s[j]'hj).toNat ≤ 126) (fun i _ => s.size - (Go.RowKit.intOf i).toNat)
              case atStart => exact ⟨0, by omega, rfl, rfl, fun j hj h => absurd h (Nat.not_lt_zero j)⟩
              case round =>
                obtain ⟨m, hm, rfl, rfl, hall⟩ := hrel
                have HALL := hide hall
                clear hall
                by_cases hlt : m < s.size
                · have HLT := hide hlt
                  have HG := hide (show ¬ (32 ≤ (s[m]'hlt).toNat ∧ (s[m]'hlt).toNat ≤ 126) → rb = false from HNO.out m hlt)
                  have HG2 := hide (show 32 ≤ (s[m]'hlt).toNat ∧ (s[m]'hlt).toNat ≤ 126 → ∀ j (hj : j < s.size), j < m + 1 → 32 ≤ (s[j]'hj).toNat ∧ (s[j]'hj).toNat ≤ 126 from fun h j hj h3 => by
                    by_cases h4 : j = m
                    · subst h4; exact h
                    · exact HALL.out j hj (by omega))
                  obtain ⟨b, hb⟩ : ∃ b, (s[m]'hlt).toNat = b := ⟨_, rfl⟩
                  rw [hb] at HG HG2
                  by_cases hg : 32 ≤ b ∧ b ≤ 126
                  · have g1 : decide ((b : Int) < 32) = false := decide_eq_false (by omega)
                    have g2 : decide ((b : Int) > 126) = false := decide_eq_false (by omega)
                    have HGG := hide hg
                    clear hg
                    go_wp2_with fail
                    go_roundw
                    case rel => exact ⟨m + 1, HLT.out, by go_num, by trivial, HG2.out HGG.out⟩
                    case measure => have := HLT.out; simp [Go.RowKit.intOf]; omega
                  · have hf := hide (HG.out hg)
                    by_cases h1 : b < 32
                    · have g1 : decide ((b : Int) < 32) = true := decide_eq_true (by omega)
                      clear hg
                      go_wp2_with fail
                      go_ret
                      exact ⟨ret_boolb hf.out.symm, B1.out⟩
                    · have g1 : decide ((b : Int) < 32) = false := decide_eq_false (by omega)
                      have g2 : decide ((b : Int) > 126) = true := decide_eq_true (by omega)
                      clear hg
                      go_wp2_with fail
                      go_ret
                      exact ⟨ret_boolb hf.out.symm, B1.out⟩
                · obtain rfl : s.size = m := by omega
                  have hv := hide ((HYES.out (fun i hi => HALL.out i hi hi)).trans (decide_eq_true HALLC.out))
                  go_wp2_with fail
                  go_ret
                  exact ⟨ret_boolb hv.out.symm, B1.out⟩
/-- what the document's Add has made of the first m accounts -/
def stepA (M : List AcM) (x : AcM) (m : Nat) : List AcM := if (M.take m).any (fun y => decide (x.code < y.code)) = true then insA (M.take m) x else M.take m
def doneA (M : List AcM) (x : AcM) (m : Nat) : Bool := (M.take m).any fun y => decide (x.code < y.code)
theorem insA_snoc {M : List AcM} {x y : AcM} (h : M.any (fun y => decide (x.code < y.code)) = true) : insA (M ++ [y]) x = insA M x ++ [y] := by
  induction M with
  | nil => simp at h
  | cons z M ih =>
    show (if x.code < z.code then x :: z :: (M ++ [y]) else z :: insA (M ++ [y]) x) = (if x.code < z.code then x :: z :: M else z :: insA M x) ++ [y]
    by_cases hz : x.code < z.code
    · rw [if_pos hz, if_pos hz]; rfl
    · rw [if_neg hz, if_neg hz, ih (by simpa [hz] using h)]; rfl
theorem insA_last {M : List AcM} {x : AcM} (h : M.any (fun y => decide (x.code < y.code)) = false) : insA M x = M ++ [x] := by
  induction M with
  | nil => rfl
  | cons z M ih =>
    rw [List.any_cons, Bool.or_eq_false_iff] at h
    show (if x.code < z.code then x :: z :: M else z :: insA M x) = _
    rw [if_neg (of_decide_eq_false h.1), ih h.2]; rfl
theorem insA_cut {M : List AcM} {x y : AcM} (h : M.any (fun y => decide (x.code < y.code)) = false) (hy : x.code < y.code) : insA (M ++ [y]) x = M ++ [x, y] := by
  induction M with
  | nil => show (if x.code < y.code then x :: [y] else y :: insA [] x) = _; rw [if_pos hy]; rfl
  | cons z M ih =>
    rw [List.any_cons, Bool.or_eq_false_iff] at h
    show (if x.code < z.code then x :: z :: (M ++ [y]) else z :: insA (M ++ [y]) x) = _
    rw [if_neg (of_decide_eq_false h.1), ih h.2]; rfl
theorem take_at (M : List AcM) (m : Nat) (h : m < M.length) : M.take (m + 1) = M.take m ++ [M.getD m ac0] := by
  rw [List.take_succ_eq_append_getElem h]; simp [List.getD, h]
/-- a round of the document's Add -/
theorem step_was {M : List AcM} {x : AcM} {m : Nat} (h : m < M.length) (hd : doneA M x m = true) : doneA M x (m + 1) = true ∧ stepA M x (m + 1) = stepA M x m ++ [M.getD m ac0] := by
  unfold doneA at hd
  have e : (M.take m ++ [M.getD m ac0]).any (fun y => decide (x.code < y.code)) = true := by rw [List.any_append, hd]; rfl
  unfold doneA stepA
  rw [take_at M m h, e, if_pos rfl, hd, if_pos rfl, insA_snoc hd]
  exact ⟨rfl, rfl⟩
theorem step_in {M : List AcM} {x : AcM} {m : Nat} (h : m < M.length) (hd : doneA M x m = false) (hy : x.code < (M.getD m ac0).code) : doneA M x (m + 1) = true ∧ stepA M x (m + 1) = (stepA M x m ++ [x]) ++ [M.getD m ac0] := by
  unfold doneA at hd
  have e : (M.take m ++ [M.getD m ac0]).any (fun y => decide (x.code < y.code)) = true := by rw [List.any_append, hd, List.any_cons, decide_eq_true hy]; rfl
  unfold doneA stepA
  rw [take_at M m h, e, if_pos rfl, hd, if_neg (by decide), insA_cut hd hy, List.append_assoc]
  exact ⟨rfl, rfl⟩
theorem step_by {M : List AcM} {x : AcM} {m : Nat} (h : m < M.length) (hd : doneA M x m = false) (hy : ¬ x.code < (M.getD m ac0).code) : doneA M x (m + 1) = false ∧ stepA M x (m + 1) = stepA M x m ++ [M.getD m ac0] := by
  unfold doneA at hd
  have e : (M.take m ++ [M.getD m ac0]).any (fun y => decide (x.code < y.code)) = false := by rw [List.any_append, hd, List.any_cons, decide_eq_false hy]; rfl
  unfold doneA stepA
  rw [take_at M m h, e, if_neg (by decide), hd, if_neg (by decide)]
  exact ⟨rfl, rfl⟩
theorem step_len (M : List AcM) (x : AcM) (m : Nat) (h : m ≤ M.length) : (stepA M x m).length ≤ m + 1 := by
  unfold stepA
  split
  · rw [insA_length, List.length_take]; omega
  · rw [List.length_take]; omega
theorem step_end (M : List AcM) (x : AcM) : insA M x = if doneA M x M.length = true then stepA M x M.length else stepA M x M.length ++ [x] := by
  unfold doneA stepA
  rw [List.take_length]
  by_cases h : (M.any fun y => decide (x.code < y.code)) = true
  · rw [if_pos h, if_pos h]
  · rw [if_neg h, if_neg h, insA_last (by simpa using h)]
theorem belowN {B : Nat} {a b : World} (h : Below B a b) (n : Nat) : Below B a (b.drewN n) := ⟨h.os, h.tape, h.output, h.size, h.block⟩
def RAddIs (M : List AcM) (x : AcM) (w : World) (e : Ending) (w' : World) : Prop := ∃ (a : Option Addr) (c : Nat), e = .returned (.tuple #[.slice a (addM M x).length c, .int .i64 (addE M x)]) ∧ AcsIn w' a (addM M x) ∧ Below w.heap.size w w'
set_option maxRecDepth 100000 in
set_option maxHeartbeats 1000000 in
theorem radd_any (M : List AcM) (hM : M.length ≤ 64) (x : AcM) (hx : AcOk x) (a : Option Addr) (cap : Nat) (w : World) (hin : AcsIn w a M) :
    Calls Try.prog 12 #[.slice a M.length cap, acV x] w (RAddIs M x w) := by
  obtain ⟨i0, hi, hz0, hz1, hz2⟩ := info_parts (show (Try.prog.info? 34).map (fun i => (i.zero, i.size, i.bytes)) = some (some (acV ac0), 3, 32) by kernel_rfl)
  have HI := hide hi
  have HZ0 := hide hz0
  have HZ1 := hide hz1
  have HZ2 := hide hz2
  have HR := hide (fun W => rright_any x hx W)
  have HF := hide (fun W hW => rfind_any M (by omega) a cap x.code W hW)
  have HE := hide (show addE M x = if rightB x = false then 2 else if (getA M x.code).isSome then 16 else if 64 ≤ M.length then 7 else 0 from rfl)
  have HNO := hide (fun h => @addM_no M x h)
  have HYES := hide (fun h => show addM M x = insA M x from if_pos h)
  have HFI := hide (findA_is M x.code)
  have HS1 := hide (fun m h1 h2 => @step_was M x m h1 h2)
  have HS2 := hide (fun m h1 h2 h3 => @step_in M x m h1 h2 h3)
  have HS3 := hide (fun m h1 h2 h3 => @step_by M x m h1 h2 h3)
  have HSL := hide (fun m h => step_len M x m h)
  have HSE := hide (step_end M x)
  have HS0 := hide (show stepA M x 0 = [] ∧ doneA M x 0 = false from ⟨rfl, rfl⟩)
  have HL := hide (show acL x = [.int .i64 x.code, .int .u8 x.kind, .string x.name] from rfl)
  unfold RAddIs
  generalize addE M x = ae at *
  generalize addM M x = am at *
  generalize rightB x = rb at *
  generalize (getA M x.code).isSome = th at *
  generalize insA M x = im at *
  generalize hst : stepA M x = st at *
  generalize hdn : doneA M x = dn at *
  have HXX := hide (And.intro hst hdn)
  have hal := (Below.refl w.heap.size w).alloc (Nat.le_refl _) (.cells #[.int .i64 x.code, .int .u8 x.kind, .string x.name] 34)
  have X1 := hide (heap_new w (.cells #[.int .i64 x.code, .int .u8 x.kind, .string x.name] 34))
  have B1 := hide hal
  have I1 := hide (hin.keep hal)
  have HIN := hide hin
  have HO1 := hide (fun x => acL_one x)
  clear hal hi hz0 hz1 hz2 hin hx hst hdn
  obtain ⟨c, k, s⟩ := x
  unfold acV at *
  dsimp only at *
  generalize hfa : findA M c = fa at *
  clear hfa
  go_enter Try.func12, Try.ntmps12
  go_upto_region 1 with (fail)
  generalize w.alloc (.cells #[.int .i64 c, .int .u8 k, .string s] 34) = w1 at *
  generalize hq : w.heap.size = q at X1 ⊢
  have HQ := hide hq
  clear hq
  have e0 : w1.cell? ⟨q, 0, none⟩ = some (.int .i64 c) := cell_of_block X1.out 0
  have e1 : w1.cell? ⟨q, 1, none⟩ = some (.int .u8 k) := cell_of_block X1.out 1
  have e2 : w1.cell? ⟨q, 2, none⟩ = some (.string s) := cell_of_block X1.out 2
  go_wp2_with fail
  refine (HR.out _).mono ?_
  rintro e w2 ⟨rfl, hb⟩
  have X2 := hide ((hb.block _ (heap_lt X1.out)).trans X1.out)
  have B2 := hide (B1.out.trans (hb.mono B1.out.size))
  have I2 := hide (I1.out.keep hb)
  clear hb X1 B1 I1 e0 e1 e2 HR
  have e0 : w2.cell? ⟨q, 0, none⟩ = some (.int .i64 c) := cell_of_block X2.out 0
  have e1 : w2.cell? ⟨q, 1, none⟩ = some (.int .u8 k) := cell_of_block X2.out 1
  have e2 : w2.cell? ⟨q, 2, none⟩ = some (.string s) := cell_of_block X2.out 2
  cases rb with
  | false =>
    have h1 := HE.out.trans (if_pos rfl)
    have H1 := hide h1
    have H2 := hide (HNO.out (by rw [h1]; decide))
    clear h1
    go_wp2_with fail
    go_ret2
    refine ⟨a, cap, ?_, by rw [H2.out]; exact I2.out, B2.out⟩
    rw [H2.out, H1.out]
    rfl
  | true =>
    have h1 := HE.out.trans (if_neg (by decide))
    have H1 := hide h1
    clear h1
    go_wp2_with fail
    refine (HF.out _ I2.out).mono ?_
    rintro e w3 ⟨rfl, rfl⟩
    cases th with
    | true =>
      have hfa : 0 ≤ fa := HFI.out.1.2 rfl
      have h2 := H1.out.trans (if_pos rfl)
      have H2 := hide h2
      have H3 := hide (HNO.out (by rw [h2]; decide))
      clear h2
      go_wp2_with fail
      go_ret2
      refine ⟨a, cap, ?_, by rw [H3.out]; exact I2.out, B2.out⟩
      rw [H3.out, H2.out]
      rfl
    | false =>
      have hfa : decide (0 ≤ fa) = false := decide_eq_false (fun h => by have := HFI.out.1.1 h; cases this)
      have h2 := H1.out.trans (if_neg (by decide))
      by_cases h64 : 64 ≤ M.length
      · have h3 := h2.trans (if_pos h64)
        have H2 := hide h3
        have H3 := hide (HNO.out (by rw [h3]; decide))
        have h64i : (64 : Int) ≤ (M.length : Int) := by omega
        clear h2 h3
        go_wp2_with fail
        go_ret2
        refine ⟨a, cap, ?_, by rw [H3.out]; exact I2.out, B2.out⟩
        rw [H3.out, H2.out]
        rfl
      · have h3 := h2.trans (if_neg h64)
        have H2 := hide h3
        have H3 := hide (HYES.out h3)
        have h64i : decide ((64 : Int) ≤ (M.length : Int)) = false := decide_eq_false (by omega)
        have h64j : ((64 : Int) ≤ (M.length : Int)) = False := eq_false (by omega)
        clear h2 h3 HE HNO HYES H1 HFI
        go_wp2_with fail
        clear hfa e0 e1 e2 I2
        go_loopw [8, 9, 10] (fun l d i W => ∃ (m : Nat) (g : Option Addr) (c4 : Nat), m ≤ M.length ∧ l = .slice g (st m).length c4 ∧ d = .bool (dn m) ∧ i = .int .i64 m ∧ W.ownsRow (q + 1) 34 3 (.slice g (st m).length c4) (st m).length ((st m).flatMap acL) ∧ W.heap[q]? = some (.cells #[.int .i64 c, .int .u8 k, .string s] 34 (0, 0)) ∧ Below w.heap.size w W) (fun _ _ i _ => M.length - (Go.RowKit.intOf i).toNat)
        case atStart => exact ⟨0, none, 0, by omega, by rw [HS0.out.1]; rfl, by rw [HS0.out.2], rfl, by rw [HS0.out.1]; exact World.ownsRow_nil _ _ _ _, X2.out, B2.out⟩
        case round =>
          obtain ⟨m, g, c4, hm, rfl, rfl, rfl, ho, hx, hb⟩ := hrel
          have OM := hide ho
          have XM := hide hx
          have BM := hide hb
          clear ho hx hb X2 B2
          have HLN := hide (show (st m).length ≤ 70 from Nat.le_trans (HSL.out m hm) (by omega))
          by_cases hlt : m < M.length
          · have HLT := hide hlt
            obtain ⟨b, rfl, hbl, p0, p1, p2⟩ := (HIN.out.keep BM.out) m hlt
            have e0 : wr.cell? ⟨q, 0, none⟩ = some (.int .i64 c) := cell_of_block XM.out 0
            have HT1 := hide (HS1.out m hlt)
            have HT2 := hide (HS2.out m hlt)
            have HT3 := hide (HS3.out m hlt)
            obtain ⟨y, hyy⟩ : ∃ y, M.getD m ac0 = y := ⟨_, rfl⟩
            rw [hyy] at p0 p1 p2 HT1 HT2 HT3
            have HYY := hide hyy
            have HY := hide (show acL y = [.int .i64 y.code, .int .u8 y.kind, .string y.name] from rfl)
            obtain ⟨yc, yk, ys⟩ := y
            dsimp only at *
            generalize st m = sm at *
            cases hdm : dn m with
            | true =>
              have HSN := hide (HT1.out hdm)
              clear hdm HT1 HT2 HT3 hbl
              go_upto_region 14 with (fail)
              go_cut [44] from 33 to 44 (fun t W => t = .bool false ∧ W.ownsRow (q + 1) 34 3 (.slice g sm.length c4) sm.length (sm.flatMap acL) ∧ W.heap[q]? = some (.cells #[.int .i64 c, .int .u8 k, .string s] 34 (0, 0)) ∧ Below w.heap.size w W)
              case first =>
                go_quiet (fail)
                go_wp2
                go_meet
                exact ⟨rfl, OM.out, XM.out, belowN BM.out _⟩
              case rest =>
                obtain ⟨rfl, ho, hx, hb⟩ := hcut
                have OM := hide ho
                have XM := hide hx
                have BM := hide hb
                clear ho hx hb
                obtain ⟨b', hb', -, p0, p1, p2⟩ := (HIN.out.keep BM.out) m hlt
                simp only [Option.some.injEq, Addr.mk.injEq, and_true] at hb'
                subst hb'
                rw [hyy] at p0 p1 p2
                have e0 : wc.cell? ⟨q, 0, none⟩ = some (.int .i64 c) := cell_of_block XM.out 0
                have e1 : wc.cell? ⟨q, 1, none⟩ = some (.int .u8 k) := cell_of_block XM.out 1
                have e2 : wc.cell? ⟨q, 2, none⟩ = some (.string s) := cell_of_block XM.out 2
                clear hyy
                clear e0 e1 e2
                have hal := (Below.refl wc.heap.size wc).alloc (Nat.le_refl _) (.cells #[.int .i64 yc, .int .u8 yk, .string ys] 34)
                have XN := hide (heap_new wc (.cells #[.int .i64 yc, .int .u8 yk, .string ys] 34))
                have OMa := hide (owns_below OM.out hal)
                have XMa := hide ((hal.block _ (heap_lt XM.out)).trans XM.out)
                have BMa := hide (BM.out.trans (hal.mono BM.out.size))
                have hw2 : q + 1 ≤ (wc.alloc (.cells #[.int .i64 yc, .int .u8 yk, .string ys] 34)).heap.size := heap_lt XMa.out
                have hln : sm.length ≤ 71 := by have := HLN.out; omega
                clear hal OM XM BM
                go_wp2_with (at_builtin; refine wpList_append_own2 _ rfl _ _ 25 rfl (q + 1) 34 i0 (acV ac0) 3 32 Try.underlying25 HI.out HZ0.out HZ1.out HZ2.out rfl (by decide) (.slice g (sm.length) c4) (sm.length) (sm.flatMap acL) rfl OMa.out ⟨wc.heap.size, 0, none⟩ 1 1 (by decide) [.int .i64 yc, .int .u8 yk, .string ys] rfl rfl (cells_new XN.out) (HO1.out ⟨yc, yk, ys⟩) (by unfold maxLen; omega) (by omega) hw2 ?_; intro g3 c3' w3 ho hgr hnil; have OMb := hide ho; have XMb := hide ((hgr.block q (heap_lt XMa.out) (fun h => by have := (OMa.out.lt q h.symm).1; omega)).trans XMa.out); have BMb := hide (BMa.out.grown hgr BMa.out.size (fun jj hj => by have := (OMa.out.lt jj hj).1; have := HQ.out; omega)); clear ho hgr hnil; have d0 : w3.cell? ⟨q, 0, none⟩ = some (.int .i64 c) := cell_of_block XMb.out 0; have d1 : w3.cell? ⟨q, 1, none⟩ = some (.int .u8 k) := cell_of_block XMb.out 1; have d2 : w3.cell? ⟨q, 2, none⟩ = some (.string s) := cell_of_block XMb.out 2)
                go_roundw
                case rel => exact ⟨m + 1, some ⟨g3, 0, none⟩, c3', HLT.out, by rw [HSN.out.2]; simp, by rw [HSN.out.1], by go_num, by rw [HSN.out.2]; simpa [List.flatMap_append, HY.out, HL.out] using OMb.out, XMb.out, BMb.out⟩
                case measure => have := HLT.out; simp [Go.RowKit.intOf]; omega
            | false =>
              by_cases hy : c < yc
              · have HSN := hide (HT2.out hdm hy)
                clear hdm HT1 HT2 HT3 hbl
                have hyd : decide (yc > c) = true := decide_eq_true hy
                go_upto_region 14 with (fail)
                go_cut [44] from 33 to 44 (fun t W => t = .bool true ∧ W.ownsRow (q + 1) 34 3 (.slice g sm.length c4) sm.length (sm.flatMap acL) ∧ W.heap[q]? = some (.cells #[.int .i64 c, .int .u8 k, .string s] 34 (0, 0)) ∧ Below w.heap.size w W)
                case first =>
                  go_quiet (fail)
                  go_wp2
                  go_meet
                  exact ⟨rfl, OM.out, XM.out, belowN BM.out _⟩
                case rest =>
                  obtain ⟨rfl, ho, hx, hb⟩ := hcut
                  have OM := hide ho
                  have XM := hide hx
                  have BM := hide hb
                  clear ho hx hb
                  obtain ⟨b', hb', -, p0, p1, p2⟩ := (HIN.out.keep BM.out) m hlt
                  simp only [Option.some.injEq, Addr.mk.injEq, and_true] at hb'
                  subst hb'
                  rw [hyy] at p0 p1 p2
                  have e0 : wc.cell? ⟨q, 0, none⟩ = some (.int .i64 c) := cell_of_block XM.out 0
                  have e1 : wc.cell? ⟨q, 1, none⟩ = some (.int .u8 k) := cell_of_block XM.out 1
                  have e2 : wc.cell? ⟨q, 2, none⟩ = some (.string s) := cell_of_block XM.out 2
                  clear hyy
                  clear hyd hy p0 p1 p2
                  go_upto_region 15 with (fail)
                  have hal := (Below.refl wc.heap.size wc).alloc (Nat.le_refl _) (.cells #[.int .i64 c, .int .u8 k, .string s] 34)
                  have XN := hide (heap_new wc (.cells #[.int .i64 c, .int .u8 k, .string s] 34))
                  have OMa := hide (owns_below OM.out hal)
                  have XMa := hide ((hal.block _ (heap_lt XM.out)).trans XM.out)
                  have BMa := hide (BM.out.trans (hal.mono BM.out.size))
                  have hw2 : q + 1 ≤ (wc.alloc (.cells #[.int .i64 c, .int .u8 k, .string s] 34)).heap.size := heap_lt XMa.out
                  have hln : sm.length ≤ 71 := by have := HLN.out; omega
                  clear hal OM XM BM
                  go_upto_region 17 with (at_builtin; refine wpList_append_own2 _ rfl _ _ 25 rfl (q + 1) 34 i0 (acV ac0) 3 32 Try.underlying25 HI.out HZ0.out HZ1.out HZ2.out rfl (by decide) (.slice g (sm.length) c4) (sm.length) (sm.flatMap acL) rfl OMa.out ⟨wc.heap.size, 0, none⟩ 1 1 (by decide) [.int .i64 c, .int .u8 k, .string s] rfl rfl (cells_new XN.out) (HO1.out ⟨c, k, s⟩) (by unfold maxLen; omega) (by omega) hw2 ?_; intro g3 c3' w3 ho hgr hnil; have OMb := hide ho; have XMb := hide ((hgr.block q (heap_lt XMa.out) (fun h => by have := (OMa.out.lt q h.symm).1; omega)).trans XMa.out); have BMb := hide (BMa.out.grown hgr BMa.out.size (fun jj hj => by have := (OMa.out.lt jj hj).1; have := HQ.out; omega)); clear ho hgr hnil; have d0 : w3.cell? ⟨q, 0, none⟩ = some (.int .i64 c) := cell_of_block XMb.out 0; have d1 : w3.cell? ⟨q, 1, none⟩ = some (.int .u8 k) := cell_of_block XMb.out 1; have d2 : w3.cell? ⟨q, 2, none⟩ = some (.string s) := cell_of_block XMb.out 2)
                  have OM := hide OMb.out
                  have XM := hide XMb.out
                  have BM := hide BMb.out
                  obtain ⟨b', hb', -, p0, p1, p2⟩ := (HIN.out.keep BM.out) m HLT.out
                  simp only [Option.some.injEq, Addr.mk.injEq, and_true] at hb'
                  subst hb'
                  rw [HYY.out] at p0 p1 p2
                  clear OMb XMb BMb OMa XMa BMa XN hw2 hln e0 e1 e2 d0 d1 d2
                  have hal := (Below.refl w3.heap.size w3).alloc (Nat.le_refl _) (.cells #[.int .i64 yc, .int .u8 yk, .string ys] 34)
                  have XN := hide (heap_new w3 (.cells #[.int .i64 yc, .int .u8 yk, .string ys] 34))
                  have OMa := hide (owns_below OM.out hal)
                  have XMa := hide ((hal.block _ (heap_lt XM.out)).trans XM.out)
                  have BMa := hide (BM.out.trans (hal.mono BM.out.size))
                  have hw2 : q + 1 ≤ (w3.alloc (.cells #[.int .i64 yc, .int .u8 yk, .string ys] 34)).heap.size := heap_lt XMa.out
                  have hln : sm.length + 1 ≤ 71 := by have := HLN.out; omega
                  clear hal OM XM BM
                  go_wp2_with (at_builtin; refine wpList_append_own2 _ rfl _ _ 25 rfl (q + 1) 34 i0 (acV ac0) 3 32 Try.underlying25 HI.out HZ0.out HZ1.out HZ2.out rfl (by decide) (.slice (some ⟨g3, 0, none⟩) (sm.length + 1) c3') (sm.length + 1) (sm.flatMap acL ++ [Value.int .i64 c, Value.int .u8 k, Value.string s]) rfl OMa.out ⟨w3.heap.size, 0, none⟩ 1 1 (by decide) [.int .i64 yc, .int .u8 yk, .string ys] rfl rfl (cells_new XN.out) (HO1.out ⟨yc, yk, ys⟩) (by unfold maxLen; omega) (by omega) hw2 ?_; intro g5 c5' w5 ho hgr hnil; have OMb := hide ho; have XMb := hide ((hgr.block q (heap_lt XMa.out) (fun h => by have := (OMa.out.lt q h.symm).1; omega)).trans XMa.out); have BMb := hide (BMa.out.grown hgr BMa.out.size (fun jj hj => by have := (OMa.out.lt jj hj).1; have := HQ.out; omega)); clear ho hgr hnil; have d0 : w5.cell? ⟨q, 0, none⟩ = some (.int .i64 c) := cell_of_block XMb.out 0; have d1 : w5.cell? ⟨q, 1, none⟩ = some (.int .u8 k) := cell_of_block XMb.out 1; have d2 : w5.cell? ⟨q, 2, none⟩ = some (.string s) := cell_of_block XMb.out 2)
                  go_roundw
                  case rel => exact ⟨m + 1, some ⟨g5, 0, none⟩, c5', HLT.out, by rw [HSN.out.2]; simp, by rw [HSN.out.1], by go_num, by rw [HSN.out.2]; simpa [List.flatMap_append, HY.out, HL.out] using OMb.out, XMb.out, BMb.out⟩
                  case measure => have := HLT.out; simp [Go.RowKit.intOf]; omega
              · have HSN := hide (HT3.out hdm (by omega))
                clear hdm HT1 HT2 HT3 hbl
                have hyd : decide (yc > c) = false := decide_eq_false hy
                go_upto_region 14 with (fail)
                go_cut [44] from 33 to 44 (fun t W => t = .bool false ∧ W.ownsRow (q + 1) 34 3 (.slice g sm.length c4) sm.length (sm.flatMap acL) ∧ W.heap[q]? = some (.cells #[.int .i64 c, .int .u8 k, .string s] 34 (0, 0)) ∧ Below w.heap.size w W)
                case first =>
                  go_quiet (fail)
                  go_wp2
                  go_meet
                  exact ⟨rfl, OM.out, XM.out, belowN BM.out _⟩
                case rest =>
                  obtain ⟨rfl, ho, hx, hb⟩ := hcut
                  have OM := hide ho
                  have XM := hide hx
                  have BM := hide hb
                  clear ho hx hb
                  obtain ⟨b', hb', -, p0, p1, p2⟩ := (HIN.out.keep BM.out) m hlt
                  simp only [Option.some.injEq, Addr.mk.injEq, and_true] at hb'
                  subst hb'
                  rw [hyy] at p0 p1 p2
                  have e0 : wc.cell? ⟨q, 0, none⟩ = some (.int .i64 c) := cell_of_block XM.out 0
                  have e1 : wc.cell? ⟨q, 1, none⟩ = some (.int .u8 k) := cell_of_block XM.out 1
                  have e2 : wc.cell? ⟨q, 2, none⟩ = some (.string s) := cell_of_block XM.out 2
                  clear hyy
                  clear hyd hy e0 e1 e2
                  have hal := (Below.refl wc.heap.size wc).alloc (Nat.le_refl _) (.cells #[.int .i64 yc, .int .u8 yk, .string ys] 34)
                  have XN := hide (heap_new wc (.cells #[.int .i64 yc, .int .u8 yk, .string ys] 34))
                  have OMa := hide (owns_below OM.out hal)
                  have XMa := hide ((hal.block _ (heap_lt XM.out)).trans XM.out)
                  have BMa := hide (BM.out.trans (hal.mono BM.out.size))
                  have hw2 : q + 1 ≤ (wc.alloc (.cells #[.int .i64 yc, .int .u8 yk, .string ys] 34)).heap.size := heap_lt XMa.out
                  have hln : sm.length ≤ 71 := by have := HLN.out; omega
                  clear hal OM XM BM
                  go_wp2_with (at_builtin; refine wpList_append_own2 _ rfl _ _ 25 rfl (q + 1) 34 i0 (acV ac0) 3 32 Try.underlying25 HI.out HZ0.out HZ1.out HZ2.out rfl (by decide) (.slice g (sm.length) c4) (sm.length) (sm.flatMap acL) rfl OMa.out ⟨wc.heap.size, 0, none⟩ 1 1 (by decide) [.int .i64 yc, .int .u8 yk, .string ys] rfl rfl (cells_new XN.out) (HO1.out ⟨yc, yk, ys⟩) (by unfold maxLen; omega) (by omega) hw2 ?_; intro g3 c3' w3 ho hgr hnil; have OMb := hide ho; have XMb := hide ((hgr.block q (heap_lt XMa.out) (fun h => by have := (OMa.out.lt q h.symm).1; omega)).trans XMa.out); have BMb := hide (BMa.out.grown hgr BMa.out.size (fun jj hj => by have := (OMa.out.lt jj hj).1; have := HQ.out; omega)); clear ho hgr hnil; have d0 : w3.cell? ⟨q, 0, none⟩ = some (.int .i64 c) := cell_of_block XMb.out 0; have d1 : w3.cell? ⟨q, 1, none⟩ = some (.int .u8 k) := cell_of_block XMb.out 1; have d2 : w3.cell? ⟨q, 2, none⟩ = some (.string s) := cell_of_block XMb.out 2)
                  go_roundw
                  case rel => exact ⟨m + 1, some ⟨g3, 0, none⟩, c3', HLT.out, by rw [HSN.out.2]; simp, by rw [HSN.out.1], by go_num, by rw [HSN.out.2]; simpa [List.flatMap_append, HY.out, HL.out] using OMb.out, XMb.out, BMb.out⟩
                  case measure => have := HLT.out; simp [Go.RowKit.intOf]; omega
          · obtain rfl : M.length = m := by omega
            clear hlt HS1 HS2 HS3
            generalize st M.length = sm at *
            have e0 : wr.cell? ⟨q, 0, none⟩ = some (.int .i64 c) := cell_of_block XM.out 0
            have e1 : wr.cell? ⟨q, 1, none⟩ = some (.int .u8 k) := cell_of_block XM.out 1
            have e2 : wr.cell? ⟨q, 2, none⟩ = some (.string s) := cell_of_block XM.out 2
            cases hdm : dn M.length with
            | true =>
              rw [hdm, if_pos rfl] at HSE
              clear hdm
              go_wp2_with fail
              go_ret2
              refine ⟨g, c4, ?_, ?_, BM.out⟩
              · rw [H3.out, H2.out, HSE.out]; rfl
              · rw [H3.out, HSE.out]; exact AcsIn.of_owns OM.out
            | false =>
              rw [hdm, if_neg (by decide)] at HSE
              clear hdm
              have hal := (Below.refl wr.heap.size wr).alloc (Nat.le_refl _) (.cells #[.int .i64 c, .int .u8 k, .string s] 34)
              have XN := hide (heap_new wr (.cells #[.int .i64 c, .int .u8 k, .string s] 34))
              have OMa := hide (owns_below OM.out hal)
              have XMa := hide ((hal.block _ (heap_lt XM.out)).trans XM.out)
              have BMa := hide (BM.out.trans (hal.mono BM.out.size))
              have hw2 : q + 1 ≤ (wr.alloc (.cells #[.int .i64 c, .int .u8 k, .string s] 34)).heap.size := heap_lt XMa.out
              have hln : sm.length ≤ 71 := by have := HLN.out; omega
              clear hal OM XM BM
              go_wp2_with (at_builtin; refine wpList_append_own2 _ rfl _ _ 25 rfl (q + 1) 34 i0 (acV ac0) 3 32 Try.underlying25 HI.out HZ0.out HZ1.out HZ2.out rfl (by decide) (.slice g (sm.length) c4) (sm.length) (sm.flatMap acL) rfl OMa.out ⟨wr.heap.size, 0, none⟩ 1 1 (by decide) [.int .i64 c, .int .u8 k, .string s] rfl rfl (cells_new XN.out) (HO1.out ⟨c, k, s⟩) (by unfold maxLen; omega) (by omega) hw2 ?_; intro g3 c3' w3 ho hgr hnil; have OMb := hide ho; have XMb := hide ((hgr.block q (heap_lt XMa.out) (fun h => by have := (OMa.out.lt q h.symm).1; omega)).trans XMa.out); have BMb := hide (BMa.out.grown hgr BMa.out.size (fun jj hj => by have := (OMa.out.lt jj hj).1; have := HQ.out; omega)); clear ho hgr hnil; have d0 : w3.cell? ⟨q, 0, none⟩ = some (.int .i64 c) := cell_of_block XMb.out 0; have d1 : w3.cell? ⟨q, 1, none⟩ = some (.int .u8 k) := cell_of_block XMb.out 1; have d2 : w3.cell? ⟨q, 2, none⟩ = some (.string s) := cell_of_block XMb.out 2)
              go_ret2
              refine ⟨some ⟨g3, 0, none⟩, c3', ?_, ?_, BMb.out⟩
              · rw [H3.out, H2.out, HSE.out, List.length_append]; rfl
              · rw [H3.out, HSE.out]; exact AcsIn.of_owns (by simpa [List.flatMap_append, HL.out] using OMb.out)
end Go.Proofs.Ytehjhldijhoeeaa
