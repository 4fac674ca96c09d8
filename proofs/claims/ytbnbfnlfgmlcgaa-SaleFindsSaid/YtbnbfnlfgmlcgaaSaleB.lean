/-
  Layer 25: wants; Find; Back.
-/
import Derived.Test.YtbnbfnlfgmlcgaaSaleA
--import Derived.Test.Zdbg
namespace Go.Proofs.Ytbnbfnlfgmlcgaa
set_option linter.unusedSimpArgs false
set_option linter.unusedVariables false
open Go.RowKit Go.WideShapes Go.ChangeShapes Go.ChangeAt Go.Deep

structure AskM where
  K : List Int
  ka : Option Addr
  kc : Nat
  s : Int
  a : Int
  l : Int
  m : Int
  o : Bool
def askV (q : AskM) : Value := .agg #[.slice q.ka q.K.length q.kc, .int .i64 q.s, .int .i64 q.a, .int .i64 q.l, .int .i64 q.m, .bool q.o]
def wantsT (q : AskM) (t : TxM) : Bool := if 0 < q.K.length ∧ ¬ t.kind ∈ q.K then false else if ¬ q.s = 0 ∧ ¬ t.shift = q.s then false else if ¬ q.a = 0 ∧ (t.L.any fun x => decide (x.c = q.a)) = false then false else if t.amt < q.l ∨ q.m < t.amt then false else if q.o = true ∧ (¬ t.kind = 1 ∨ t.left = 0) then false else true
set_option maxRecDepth 100000 in
set_option maxHeartbeats 2000000 in
theorem wants_tells (q : AskM) (hK : q.K.length ≤ 10) : TellsT 48 #[askV q] #[] (wantsT q) (fun W => KindsIn W q.ka q.K) := by
  intro x w hx hl hk
  obtain ⟨⟨num, kind, shift, ref, amt, left, void, L⟩, la, lc⟩ := x
  obtain ⟨K, ka, kc, qs, qa, q0, q1, qo⟩ := q
  have hf8 : L.length ≤ 1000 := hx.few
  have hl' := hl.lnIn
  dsimp only at hl' hk hK
  clear hl hx
  show Calls Try.prog 48 #[.agg #[.slice ka K.length kc, .int .i64 qs, .int .i64 qa, .int .i64 q0, .int .i64 q1, .bool qo], .agg #[.int .i64 num, .int .u8 kind, .int .i64 shift, .int .i64 ref, .int .i64 amt, .int .i64 left, .bool void, .slice la L.length lc]] w fun e w' => e = .returned (.bool (wantsT ⟨K, ka, kc, qs, qa, q0, q1, qo⟩ ⟨num, kind, shift, ref, amt, left, void, L⟩)) ∧ Below w.heap.size w w'
  obtain ⟨bv, hbv⟩ : ∃ bv, wantsT ⟨K, ka, kc, qs, qa, q0, q1, qo⟩ ⟨num, kind, shift, ref, amt, left, void, L⟩ = bv := ⟨_, rfl⟩
  rw [hbv]
  have HR := hide (show bv = if 0 < K.length ∧ ¬ kind ∈ K then false else if ¬ qs = 0 ∧ ¬ shift = qs then false else if ¬ qa = 0 ∧ (L.any fun x => decide (x.c = qa)) = false then false else if amt < q0 ∨ q1 < amt then false else if qo = true ∧ (¬ kind = 1 ∨ left = 0) then false else true from hbv.symm)
  clear hbv
  obtain ⟨oa, hoa⟩ : ∃ ob, ob = (Obj.cells #[.slice ka K.length kc, .int .i64 qs, .int .i64 qa, .int .i64 q0, .int .i64 q1, .bool qo] 78) := ⟨_, rfl⟩
  obtain ⟨ob, hob⟩ : ∃ ob, ob = (Obj.cells #[.int .i64 num, .int .u8 kind, .int .i64 shift, .int .i64 ref, .int .i64 amt, .int .i64 left, .bool void, .slice la L.length lc] 35) := ⟨_, rfl⟩
  have al := (Below.refl w.heap.size w).alloc (Nat.le_refl _) oa
  have al2 := al.alloc (show w.heap.size ≤ (w.alloc oa).heap.size by simp) ob
  have XA := hide (show ((w.alloc oa).alloc ob).heap[w.heap.size]? = some (.cells #[.slice ka K.length kc, .int .i64 qs, .int .i64 qa, .int .i64 q0, .int .i64 q1, .bool qo] 78 (0, 0)) by rw [heap_old _ _ _ (by simp), heap_new, hoa])
  have XT := hide (show ((w.alloc oa).alloc ob).heap[w.heap.size + 1]? = some (.cells #[.int .i64 num, .int .u8 kind, .int .i64 shift, .int .i64 ref, .int .i64 amt, .int .i64 left, .bool void, .slice la L.length lc] 35 (0, 0)) by
    have := heap_new (w.alloc oa) ob
    rw [show (w.alloc oa).heap.size = w.heap.size + 1 by simp] at this
    rw [this, hob])
  have BW := hide al2
  have HLI := hide (hl'.below al2)
  have HKI := hide (hk.below al2)
  have HSZ := hide (show w.heap.size ≤ ((w.alloc oa).alloc ob).heap.size by simp; omega)
  clear al al2 hl' hk
  go_enter Try.func48, Try.ntmps48
  go_upto_region 2 with (fail)
  rw [← hoa, ← hob]
  generalize (w.alloc oa).alloc ob = w1 at *
  generalize hpq : w.heap.size = pq at *
  have HPQ := hide hpq
  clear hoa hob oa ob hpq
  have d1 := cell_of_block XT.out 1
  have d2 := cell_of_block XT.out 2
  have d4 := cell_of_block XT.out 4
  have d5 := cell_of_block XT.out 5
  have d7 := cell_of_block XT.out 7
  have e0 := cell_of_block XA.out 0
  have e1 := cell_of_block XA.out 1
  have e2 := cell_of_block XA.out 2
  have e3 := cell_of_block XA.out 3
  have e4 := cell_of_block XA.out 4
  have e5 := cell_of_block XA.out 5
  by_cases ha0 : K.length = 0
  · rw [if_neg (fun h => by omega)] at HR
    by_cases hb0 : qs = 0
    · rw [if_neg (fun h => h.1 hb0)] at HR
      rw [hb0] at e1
      clear hb0
      by_cases hc0 : qa = 0
      · rw [if_neg (fun h => h.1 hc0)] at HR
        rw [hc0] at e2
        clear hc0
        by_cases hd0 : amt < q0
        · rw [if_pos (Or.inl hd0)] at HR
          go_wp2_with fail
          go_ret
          exact ⟨by rw [HR.out]; rfl, by rw [HPQ.out]; exact BW.out⟩
        by_cases hd1 : q1 < amt
        · rw [if_pos (Or.inr hd1)] at HR
          go_wp2_with fail
          go_ret
          exact ⟨by rw [HR.out]; rfl, by rw [HPQ.out]; exact BW.out⟩
        rw [if_neg (fun h => h.elim hd0 hd1)] at HR
        cases hqo : qo with
        | false =>
          rw [if_neg (by rw [hqo]; simp)] at HR
          rw [hqo] at e5
          clear hqo
          go_wp2_with fail
          go_ret
          exact ⟨by rw [HR.out]; rfl, by rw [HPQ.out]; exact BW.out⟩
        | true =>
          rw [hqo] at e5
          by_cases hk1 : kind = 1
          · by_cases hl0 : left = 0
            · rw [if_pos ⟨hqo, .inr hl0⟩] at HR
              clear hqo
              go_wp2_with fail
              go_ret
              exact ⟨by rw [HR.out]; rfl, by rw [HPQ.out]; exact BW.out⟩
            · rw [if_neg (fun h => h.2.elim (fun h => h hk1) hl0)] at HR
              clear hqo
              go_wp2_with fail
              go_ret
              exact ⟨by rw [HR.out]; rfl, by rw [HPQ.out]; exact BW.out⟩
          · rw [if_pos ⟨hqo, .inl hk1⟩] at HR
            clear hqo
            go_wp2_with fail
            go_ret
            exact ⟨by rw [HR.out]; rfl, by rw [HPQ.out]; exact BW.out⟩
      · have HCO := hide (contains_with 65 (enters Try.func65 (by kernel_rfl) rfl) #[.pointer (some ⟨pq, 0, none⟩)] (fun x => decide (x.c = qa)) (fun W => W.cell? ⟨pq, 2, none⟩ = some (.int .i64 qa)) w1 (fun W W' hW hs hb => (hb.cell (p := ⟨pq, 2, none⟩) (heap_lt XA.out)).trans hW) (wants1_tells qa pq) L hf8 la lc HLI.out (cell_of_block XA.out 2))
        go_wp2_with fail
        refine HCO.out.mono ?_
        rintro e w2 ⟨rfl, hb⟩
        clear d1 d2 d4 d5 d7 e0 e1 e2 e3 e4 e5
        have BW' := hide (BW.out.trans (hb.mono HSZ.out))
        have XA' := hide ((hb.block _ (heap_lt XA.out)).trans XA.out)
        have XT' := hide ((hb.block _ (heap_lt XT.out)).trans XT.out)
        clear hb BW XA XT HLI HSZ HCO
        have BW := hide BW'.out
        have XA := hide XA'.out
        have XT := hide XT'.out
        clear BW' XA' XT'
        have d1 := cell_of_block XT.out 1
        have d2 := cell_of_block XT.out 2
        have d4 := cell_of_block XT.out 4
        have d5 := cell_of_block XT.out 5
        have d7 := cell_of_block XT.out 7
        have e0 := cell_of_block XA.out 0
        have e1 := cell_of_block XA.out 1
        have e2 := cell_of_block XA.out 2
        have e3 := cell_of_block XA.out 3
        have e4 := cell_of_block XA.out 4
        have e5 := cell_of_block XA.out 5
        cases hany : (L.any fun x => decide (x.c = qa)) with
        | false =>
          rw [if_pos ⟨hc0, hany⟩] at HR
          clear hany
          go_wp2_with fail
          go_ret
          exact ⟨by rw [HR.out]; rfl, by rw [HPQ.out]; exact BW.out⟩
        | true =>
          rw [if_neg (fun h => by rw [hany] at h; cases h.2)] at HR
          clear hany
          by_cases hd0 : amt < q0
          · rw [if_pos (Or.inl hd0)] at HR
            go_wp2_with fail
            go_ret
            exact ⟨by rw [HR.out]; rfl, by rw [HPQ.out]; exact BW.out⟩
          by_cases hd1 : q1 < amt
          · rw [if_pos (Or.inr hd1)] at HR
            go_wp2_with fail
            go_ret
            exact ⟨by rw [HR.out]; rfl, by rw [HPQ.out]; exact BW.out⟩
          rw [if_neg (fun h => h.elim hd0 hd1)] at HR
          cases hqo : qo with
          | false =>
            rw [if_neg (by rw [hqo]; simp)] at HR
            rw [hqo] at e5
            clear hqo
            go_wp2_with fail
            go_ret
            exact ⟨by rw [HR.out]; rfl, by rw [HPQ.out]; exact BW.out⟩
          | true =>
            rw [hqo] at e5
            by_cases hk1 : kind = 1
            · by_cases hl0 : left = 0
              · rw [if_pos ⟨hqo, .inr hl0⟩] at HR
                clear hqo
                go_wp2_with fail
                go_ret
                exact ⟨by rw [HR.out]; rfl, by rw [HPQ.out]; exact BW.out⟩
              · rw [if_neg (fun h => h.2.elim (fun h => h hk1) hl0)] at HR
                clear hqo
                go_wp2_with fail
                go_ret
                exact ⟨by rw [HR.out]; rfl, by rw [HPQ.out]; exact BW.out⟩
            · rw [if_pos ⟨hqo, .inl hk1⟩] at HR
              clear hqo
              go_wp2_with fail
              go_ret
              exact ⟨by rw [HR.out]; rfl, by rw [HPQ.out]; exact BW.out⟩
    · by_cases hb1 : shift = qs
      · rw [if_neg (fun h => h.2 hb1)] at HR
        rw [hb1] at d2
        clear hb1
        by_cases hc0 : qa = 0
        · rw [if_neg (fun h => h.1 hc0)] at HR
          rw [hc0] at e2
          clear hc0
          by_cases hd0 : amt < q0
          · rw [if_pos (Or.inl hd0)] at HR
            go_wp2_with fail
            go_ret
            exact ⟨by rw [HR.out]; rfl, by rw [HPQ.out]; exact BW.out⟩
          by_cases hd1 : q1 < amt
          · rw [if_pos (Or.inr hd1)] at HR
            go_wp2_with fail
            go_ret
            exact ⟨by rw [HR.out]; rfl, by rw [HPQ.out]; exact BW.out⟩
          rw [if_neg (fun h => h.elim hd0 hd1)] at HR
          cases hqo : qo with
          | false =>
            rw [if_neg (by rw [hqo]; simp)] at HR
            rw [hqo] at e5
            clear hqo
            go_wp2_with fail
            go_ret
            exact ⟨by rw [HR.out]; rfl, by rw [HPQ.out]; exact BW.out⟩
          | true =>
            rw [hqo] at e5
            by_cases hk1 : kind = 1
            · by_cases hl0 : left = 0
              · rw [if_pos ⟨hqo, .inr hl0⟩] at HR
                clear hqo
                go_wp2_with fail
                go_ret
                exact ⟨by rw [HR.out]; rfl, by rw [HPQ.out]; exact BW.out⟩
              · rw [if_neg (fun h => h.2.elim (fun h => h hk1) hl0)] at HR
                clear hqo
                go_wp2_with fail
                go_ret
                exact ⟨by rw [HR.out]; rfl, by rw [HPQ.out]; exact BW.out⟩
            · rw [if_pos ⟨hqo, .inl hk1⟩] at HR
              clear hqo
              go_wp2_with fail
              go_ret
              exact ⟨by rw [HR.out]; rfl, by rw [HPQ.out]; exact BW.out⟩
        · have HCO := hide (contains_with 65 (enters Try.func65 (by kernel_rfl) rfl) #[.pointer (some ⟨pq, 0, none⟩)] (fun x => decide (x.c = qa)) (fun W => W.cell? ⟨pq, 2, none⟩ = some (.int .i64 qa)) w1 (fun W W' hW hs hb => (hb.cell (p := ⟨pq, 2, none⟩) (heap_lt XA.out)).trans hW) (wants1_tells qa pq) L hf8 la lc HLI.out (cell_of_block XA.out 2))
          go_wp2_with fail
          refine HCO.out.mono ?_
          rintro e w2 ⟨rfl, hb⟩
          clear d1 d2 d4 d5 d7 e0 e1 e2 e3 e4 e5
          have BW' := hide (BW.out.trans (hb.mono HSZ.out))
          have XA' := hide ((hb.block _ (heap_lt XA.out)).trans XA.out)
          have XT' := hide ((hb.block _ (heap_lt XT.out)).trans XT.out)
          clear hb BW XA XT HLI HSZ HCO
          have BW := hide BW'.out
          have XA := hide XA'.out
          have XT := hide XT'.out
          clear BW' XA' XT'
          have d1 := cell_of_block XT.out 1
          have d2 := cell_of_block XT.out 2
          have d4 := cell_of_block XT.out 4
          have d5 := cell_of_block XT.out 5
          have d7 := cell_of_block XT.out 7
          have e0 := cell_of_block XA.out 0
          have e1 := cell_of_block XA.out 1
          have e2 := cell_of_block XA.out 2
          have e3 := cell_of_block XA.out 3
          have e4 := cell_of_block XA.out 4
          have e5 := cell_of_block XA.out 5
          cases hany : (L.any fun x => decide (x.c = qa)) with
          | false =>
            rw [if_pos ⟨hc0, hany⟩] at HR
            clear hany
            go_wp2_with fail
            go_ret
            exact ⟨by rw [HR.out]; rfl, by rw [HPQ.out]; exact BW.out⟩
          | true =>
            rw [if_neg (fun h => by rw [hany] at h; cases h.2)] at HR
            clear hany
            by_cases hd0 : amt < q0
            · rw [if_pos (Or.inl hd0)] at HR
              go_wp2_with fail
              go_ret
              exact ⟨by rw [HR.out]; rfl, by rw [HPQ.out]; exact BW.out⟩
            by_cases hd1 : q1 < amt
            · rw [if_pos (Or.inr hd1)] at HR
              go_wp2_with fail
              go_ret
              exact ⟨by rw [HR.out]; rfl, by rw [HPQ.out]; exact BW.out⟩
            rw [if_neg (fun h => h.elim hd0 hd1)] at HR
            cases hqo : qo with
            | false =>
              rw [if_neg (by rw [hqo]; simp)] at HR
              rw [hqo] at e5
              clear hqo
              go_wp2_with fail
              go_ret
              exact ⟨by rw [HR.out]; rfl, by rw [HPQ.out]; exact BW.out⟩
            | true =>
              rw [hqo] at e5
              by_cases hk1 : kind = 1
              · by_cases hl0 : left = 0
                · rw [if_pos ⟨hqo, .inr hl0⟩] at HR
                  clear hqo
                  go_wp2_with fail
                  go_ret
                  exact ⟨by rw [HR.out]; rfl, by rw [HPQ.out]; exact BW.out⟩
                · rw [if_neg (fun h => h.2.elim (fun h => h hk1) hl0)] at HR
                  clear hqo
                  go_wp2_with fail
                  go_ret
                  exact ⟨by rw [HR.out]; rfl, by rw [HPQ.out]; exact BW.out⟩
              · rw [if_pos ⟨hqo, .inl hk1⟩] at HR
                clear hqo
                go_wp2_with fail
                go_ret
                exact ⟨by rw [HR.out]; rfl, by rw [HPQ.out]; exact BW.out⟩
      · rw [if_pos ⟨hb0, hb1⟩] at HR
        have hbq : (shift != qs) = true := bne_iff_ne.mpr hb1
        go_wp2_with fail
        go_ret
        exact ⟨by rw [HR.out]; rfl, by rw [HPQ.out]; exact BW.out⟩
  · have ha1 : 0 < K.length := by omega
    clear ha0
    have HKC := hide (kcontains_any K ka kc kind w1 HKI.out hK)
    go_wp2_with fail
    refine HKC.out.mono ?_
    rintro e w2 ⟨rfl, rfl⟩
    clear HKC
    by_cases hin : kind ∈ K
    · rw [if_neg (fun h => h.2 hin)] at HR
      rw [decide_eq_true hin]
      clear hin
      by_cases hb0 : qs = 0
      · rw [if_neg (fun h => h.1 hb0)] at HR
        rw [hb0] at e1
        clear hb0
        by_cases hc0 : qa = 0
        · rw [if_neg (fun h => h.1 hc0)] at HR
          rw [hc0] at e2
          clear hc0
          by_cases hd0 : amt < q0
          · rw [if_pos (Or.inl hd0)] at HR
            go_wp2_with fail
            go_ret
            exact ⟨by rw [HR.out]; rfl, by rw [HPQ.out]; exact BW.out⟩
          by_cases hd1 : q1 < amt
          · rw [if_pos (Or.inr hd1)] at HR
            go_wp2_with fail
            go_ret
            exact ⟨by rw [HR.out]; rfl, by rw [HPQ.out]; exact BW.out⟩
          rw [if_neg (fun h => h.elim hd0 hd1)] at HR
          cases hqo : qo with
          | false =>
            rw [if_neg (by rw [hqo]; simp)] at HR
            rw [hqo] at e5
            clear hqo
            go_wp2_with fail
            go_ret
            exact ⟨by rw [HR.out]; rfl, by rw [HPQ.out]; exact BW.out⟩
          | true =>
            rw [hqo] at e5
            by_cases hk1 : kind = 1
            · by_cases hl0 : left = 0
              · rw [if_pos ⟨hqo, .inr hl0⟩] at HR
                clear hqo
                go_wp2_with fail
                go_ret
                exact ⟨by rw [HR.out]; rfl, by rw [HPQ.out]; exact BW.out⟩
              · rw [if_neg (fun h => h.2.elim (fun h => h hk1) hl0)] at HR
                clear hqo
                go_wp2_with fail
                go_ret
                exact ⟨by rw [HR.out]; rfl, by rw [HPQ.out]; exact BW.out⟩
            · rw [if_pos ⟨hqo, .inl hk1⟩] at HR
              clear hqo
              go_wp2_with fail
              go_ret
              exact ⟨by rw [HR.out]; rfl, by rw [HPQ.out]; exact BW.out⟩
        · have HCO := hide (contains_with 65 (enters Try.func65 (by kernel_rfl) rfl) #[.pointer (some ⟨pq, 0, none⟩)] (fun x => decide (x.c = qa)) (fun W => W.cell? ⟨pq, 2, none⟩ = some (.int .i64 qa)) w1 (fun W W' hW hs hb => (hb.cell (p := ⟨pq, 2, none⟩) (heap_lt XA.out)).trans hW) (wants1_tells qa pq) L hf8 la lc HLI.out (cell_of_block XA.out 2))
          go_wp2_with fail
          refine HCO.out.mono ?_
          rintro e w2 ⟨rfl, hb⟩
          clear d1 d2 d4 d5 d7 e0 e1 e2 e3 e4 e5
          have BW' := hide (BW.out.trans (hb.mono HSZ.out))
          have XA' := hide ((hb.block _ (heap_lt XA.out)).trans XA.out)
          have XT' := hide ((hb.block _ (heap_lt XT.out)).trans XT.out)
          clear hb BW XA XT HLI HSZ HCO
          have BW := hide BW'.out
          have XA := hide XA'.out
          have XT := hide XT'.out
          clear BW' XA' XT'
          have d1 := cell_of_block XT.out 1
          have d2 := cell_of_block XT.out 2
          have d4 := cell_of_block XT.out 4
          have d5 := cell_of_block XT.out 5
          have d7 := cell_of_block XT.out 7
          have e0 := cell_of_block XA.out 0
          have e1 := cell_of_block XA.out 1
          have e2 := cell_of_block XA.out 2
          have e3 := cell_of_block XA.out 3
          have e4 := cell_of_block XA.out 4
          have e5 := cell_of_block XA.out 5
          cases hany : (L.any fun x => decide (x.c = qa)) with
          | false =>
            rw [if_pos ⟨hc0, hany⟩] at HR
            clear hany
            go_wp2_with fail
            go_ret
            exact ⟨by rw [HR.out]; rfl, by rw [HPQ.out]; exact BW.out⟩
          | true =>
            rw [if_neg (fun h => by rw [hany] at h; cases h.2)] at HR
            clear hany
            by_cases hd0 : amt < q0
            · rw [if_pos (Or.inl hd0)] at HR
              go_wp2_with fail
              go_ret
              exact ⟨by rw [HR.out]; rfl, by rw [HPQ.out]; exact BW.out⟩
            by_cases hd1 : q1 < amt
            · rw [if_pos (Or.inr hd1)] at HR
              go_wp2_with fail
              go_ret
              exact ⟨by rw [HR.out]; rfl, by rw [HPQ.out]; exact BW.out⟩
            rw [if_neg (fun h => h.elim hd0 hd1)] at HR
            cases hqo : qo with
            | false =>
              rw [if_neg (by rw [hqo]; simp)] at HR
              rw [hqo] at e5
              clear hqo
              go_wp2_with fail
              go_ret
              exact ⟨by rw [HR.out]; rfl, by rw [HPQ.out]; exact BW.out⟩
            | true =>
              rw [hqo] at e5
              by_cases hk1 : kind = 1
              · by_cases hl0 : left = 0
                · rw [if_pos ⟨hqo, .inr hl0⟩] at HR
                  clear hqo
                  go_wp2_with fail
                  go_ret
                  exact ⟨by rw [HR.out]; rfl, by rw [HPQ.out]; exact BW.out⟩
                · rw [if_neg (fun h => h.2.elim (fun h => h hk1) hl0)] at HR
                  clear hqo
                  go_wp2_with fail
                  go_ret
                  exact ⟨by rw [HR.out]; rfl, by rw [HPQ.out]; exact BW.out⟩
              · rw [if_pos ⟨hqo, .inl hk1⟩] at HR
                clear hqo
                go_wp2_with fail
                go_ret
                exact ⟨by rw [HR.out]; rfl, by rw [HPQ.out]; exact BW.out⟩
      · by_cases hb1 : shift = qs
        · rw [if_neg (fun h => h.2 hb1)] at HR
          rw [hb1] at d2
          clear hb1
          by_cases hc0 : qa = 0
          · rw [if_neg (fun h => h.1 hc0)] at HR
            rw [hc0] at e2
            clear hc0
            by_cases hd0 : amt < q0
            · rw [if_pos (Or.inl hd0)] at HR
              go_wp2_with fail
              go_ret
              exact ⟨by rw [HR.out]; rfl, by rw [HPQ.out]; exact BW.out⟩
            by_cases hd1 : q1 < amt
            · rw [if_pos (Or.inr hd1)] at HR
              go_wp2_with fail
              go_ret
              exact ⟨by rw [HR.out]; rfl, by rw [HPQ.out]; exact BW.out⟩
            rw [if_neg (fun h => h.elim hd0 hd1)] at HR
            cases hqo : qo with
            | false =>
              rw [if_neg (by rw [hqo]; simp)] at HR
              rw [hqo] at e5
              clear hqo
              go_wp2_with fail
              go_ret
              exact ⟨by rw [HR.out]; rfl, by rw [HPQ.out]; exact BW.out⟩
            | true =>
              rw [hqo] at e5
              by_cases hk1 : kind = 1
              · by_cases hl0 : left = 0
                · rw [if_pos ⟨hqo, .inr hl0⟩] at HR
                  clear hqo
                  go_wp2_with fail
                  go_ret
                  exact ⟨by rw [HR.out]; rfl, by rw [HPQ.out]; exact BW.out⟩
                · rw [if_neg (fun h => h.2.elim (fun h => h hk1) hl0)] at HR
                  clear hqo
                  go_wp2_with fail
                  go_ret
                  exact ⟨by rw [HR.out]; rfl, by rw [HPQ.out]; exact BW.out⟩
              · rw [if_pos ⟨hqo, .inl hk1⟩] at HR
                clear hqo
                go_wp2_with fail
                go_ret
                exact ⟨by rw [HR.out]; rfl, by rw [HPQ.out]; exact BW.out⟩
          · have HCO := hide (contains_with 65 (enters Try.func65 (by kernel_rfl) rfl) #[.pointer (some ⟨pq, 0, none⟩)] (fun x => decide (x.c = qa)) (fun W => W.cell? ⟨pq, 2, none⟩ = some (.int .i64 qa)) w1 (fun W W' hW hs hb => (hb.cell (p := ⟨pq, 2, none⟩) (heap_lt XA.out)).trans hW) (wants1_tells qa pq) L hf8 la lc HLI.out (cell_of_block XA.out 2))
            go_wp2_with fail
            refine HCO.out.mono ?_
            rintro e w2 ⟨rfl, hb⟩
            clear d1 d2 d4 d5 d7 e0 e1 e2 e3 e4 e5
            have BW' := hide (BW.out.trans (hb.mono HSZ.out))
            have XA' := hide ((hb.block _ (heap_lt XA.out)).trans XA.out)
            have XT' := hide ((hb.block _ (heap_lt XT.out)).trans XT.out)
            clear hb BW XA XT HLI HSZ HCO
            have BW := hide BW'.out
            have XA := hide XA'.out
            have XT := hide XT'.out
            clear BW' XA' XT'
            have d1 := cell_of_block XT.out 1
            have d2 := cell_of_block XT.out 2
            have d4 := cell_of_block XT.out 4
            have d5 := cell_of_block XT.out 5
            have d7 := cell_of_block XT.out 7
            have e0 := cell_of_block XA.out 0
            have e1 := cell_of_block XA.out 1
            have e2 := cell_of_block XA.out 2
            have e3 := cell_of_block XA.out 3
            have e4 := cell_of_block XA.out 4
            have e5 := cell_of_block XA.out 5
            cases hany : (L.any fun x => decide (x.c = qa)) with
            | false =>
              rw [if_pos ⟨hc0, hany⟩] at HR
              clear hany
              go_wp2_with fail
              go_ret
              exact ⟨by rw [HR.out]; rfl, by rw [HPQ.out]; exact BW.out⟩
            | true =>
              rw [if_neg (fun h => by rw [hany] at h; cases h.2)] at HR
              clear hany
              by_cases hd0 : amt < q0
              · rw [if_pos (Or.inl hd0)] at HR
                go_wp2_with fail
                go_ret
                exact ⟨by rw [HR.out]; rfl, by rw [HPQ.out]; exact BW.out⟩
              by_cases hd1 : q1 < amt
              · rw [if_pos (Or.inr hd1)] at HR
                go_wp2_with fail
                go_ret
                exact ⟨by rw [HR.out]; rfl, by rw [HPQ.out]; exact BW.out⟩
              rw [if_neg (fun h => h.elim hd0 hd1)] at HR
              cases hqo : qo with
              | false =>
                rw [if_neg (by rw [hqo]; simp)] at HR
                rw [hqo] at e5
                clear hqo
                go_wp2_with fail
                go_ret
                exact ⟨by rw [HR.out]; rfl, by rw [HPQ.out]; exact BW.out⟩
              | true =>
                rw [hqo] at e5
                by_cases hk1 : kind = 1
                · by_cases hl0 : left = 0
                  · rw [if_pos ⟨hqo, .inr hl0⟩] at HR
                    clear hqo
                    go_wp2_with fail
                    go_ret
                    exact ⟨by rw [HR.out]; rfl, by rw [HPQ.out]; exact BW.out⟩
                  · rw [if_neg (fun h => h.2.elim (fun h => h hk1) hl0)] at HR
                    clear hqo
                    go_wp2_with fail
                    go_ret
                    exact ⟨by rw [HR.out]; rfl, by rw [HPQ.out]; exact BW.out⟩
                · rw [if_pos ⟨hqo, .inl hk1⟩] at HR
                  clear hqo
                  go_wp2_with fail
                  go_ret
                  exact ⟨by rw [HR.out]; rfl, by rw [HPQ.out]; exact BW.out⟩
        · rw [if_pos ⟨hb0, hb1⟩] at HR
          have hbq : (shift != qs) = true := bne_iff_ne.mpr hb1
          go_wp2_with fail
          go_ret
          exact ⟨by rw [HR.out]; rfl, by rw [HPQ.out]; exact BW.out⟩
    · rw [if_pos ⟨ha1, hin⟩] at HR
      rw [decide_eq_false hin]
      clear hin
      go_wp2_with fail
      go_ret
      exact ⟨by rw [HR.out]; rfl, by rw [HPQ.out]; exact BW.out⟩
end Go.Proofs.Ytbnbfnlfgmlcgaa
