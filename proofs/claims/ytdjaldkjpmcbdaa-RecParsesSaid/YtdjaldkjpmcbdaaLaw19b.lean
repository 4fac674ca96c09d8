/-
  Layer 19: RecJoins.
-/
import Derived.Test.YtdjaldkjpmcbdaaLaw19
import Derived.Deep.AppendSrc
import Derived.Deep.Upon
namespace Go.Proofs.Ytdjaldkjpmcbdaa
set_option linter.unusedSimpArgs false
set_option linter.unusedVariables false
open Go.RowKit Go.WideShapes Go.ChangeShapes Go.ChangeAt

theorem recs_cells {w : World} {b off : Nat} {L : List Rc} (h : RecsIn w (some ⟨b, off, none⟩) L) : ∀ (j : Nat) (v : Value), (L.flatMap rcC)[j]? = some v → w.cell? ((⟨b, off, none⟩ : Addr).add j) = some v := by
  intro j v hv
  have hj : j < L.length * 2 := by
    have := (List.getElem?_eq_some_iff.1 hv).1
    rwa [flat_length rcC 2 rcC_length] at this
  obtain ⟨b', off', e, h1, h2, h3⟩ := h (j / 2) (by omega)
  simp only [Option.some.injEq, Addr.mk.injEq, and_true] at e
  obtain ⟨rfl, rfl⟩ := e
  rw [Go.WideShapes.add_plain]
  have hat := flat_at rcC 2 rcC_length rc0 L (j / 2) (j % 2) (by omega) (by omega)
  rw [show j / 2 * 2 + j % 2 = j by omega, hv] at hat
  rcases Nat.mod_two_eq_zero_or_one j with hm | hm
  · rw [hm] at hat
    rw [show off + j = off + j / 2 * 2 by omega, h2]
    exact hat.symm
  · rw [hm] at hat
    rw [show off + j = off + j / 2 * 2 + 1 by omega, h3]
    exact hat.symm
theorem recs_of_row {w : World} {g : Nat} {L : List Rc} {C : Array Value} {t : Nat} {fr : Nat × Nat} (h : w.heap[g]? = some (.cells C t fr)) (hc : ∀ j, j < L.length * 2 → C[j]? = (L.flatMap rcC)[j]?) : RecsIn w (some ⟨g, 0, none⟩) L := by
  intro i hi
  have h0 := flat_at rcC 2 rcC_length rc0 L i 0 hi (by omega)
  have h1 := flat_at rcC 2 rcC_length rc0 L i 1 hi (by omega)
  refine ⟨g, 0, rfl, heap_lt h, ?_, ?_⟩
  · rw [cell_of_block h, Nat.zero_add, hc _ (by omega)]
    rw [Nat.add_zero] at h0
    exact h0
  · rw [cell_of_block h, Nat.zero_add, hc _ (by omega)]
    exact h1
theorem recs_none {w : World} {L : List Rc} (h : RecsIn w none L) : L = [] := by
  cases L with
  | nil => rfl
  | cons r L => obtain ⟨b, off, e, -⟩ := h 0 (by simp); cases e
theorem recs_plain {w : World} {A : Addr} {L : List Rc} (h : RecsIn w (some A) L) (hn : L ≠ []) : ∃ b off, A = ⟨b, off, none⟩ := by
  obtain ⟨b, off, e, -⟩ := h 0 (by cases L with
    | nil => exact absurd rfl hn
    | cons => simp)
  exact ⟨b, off, by simpa using e⟩
theorem recs_cells' {w : World} {A : Addr} {L : List Rc} (h : RecsIn w (some A) L) : ∀ (j : Nat) (v : Value), (L.flatMap rcC)[j]? = some v → w.cell? (A.add j) = some v := by
  by_cases hn : L = []
  · subst hn
    intro j v hv
    simp at hv
  · obtain ⟨b, off, rfl⟩ := recs_plain h hn
    exact recs_cells h
theorem recs_nil (w : World) (a : Option Addr) : RecsIn w a [] := fun i hi => absurd hi (by simp)
/-- two lists of records, one behind the other, where the first has no room -/
theorem append_two (ty : TypeId) (w : World) (a1 a2 : Option Addr) (c2 : Nat) (L M : List Rc) (h1 : RecsIn w a1 L) (h2 : RecsIn w a2 M) (hc2 : M.length ≤ c2) (hl : L.length ≤ 100) (hm : M.length ≤ 100) (hz : a2 = none → c2 = 0) :
    ∃ a3 c3 w', (Builtin.append_ #[27, 27] ty #[.slice a1 L.length L.length, .slice a2 M.length c2]).run Try.prog w = .ok (.slice a3 (L ++ M).length c3) w' ∧ RecsIn w' a3 (L ++ M) ∧ Below w.heap.size w w' := by
  obtain ⟨i, hi, hz0, hz1, hz2⟩ := info_parts (show (Try.prog.info? 38).map (fun i => (i.zero, i.size, i.bytes)) = some (some (.agg #[.int .u8 0, .string ⟨#[]⟩]), 2, 24) by kernel_rfl)
  have hfl : ∀ N : List Rc, (N.flatMap rcC).length = N.length * i.size := fun N => by rw [hz1, flat_length rcC 2 rcC_length]
  by_cases hM : M = []
  · subst hM
    rw [List.append_nil]
    have hsrc : Src Try.prog i.size 27 (.slice a2 0 c2) 0 [] w := by
      cases a2 with
      | none => rw [hz rfl]; exact Src.ofNil (size := i.size) w Try.underlying27 0
      | some A => exact Src.ofSlice (size := i.size) w Try.underlying27 A 0 c2 [] (by simp) (fun j v hv => by simp at hv) (fun u hu => by simp at hu)
    exact ⟨a1, L.length, w, run_append_nothing w 27 27 ty 38 i Try.underlying27 hi a1 L.length L.length (Nat.le_refl _) _ hsrc, h1, Below.refl _ _⟩
  · have hM0 : 0 < M.length := List.length_pos_iff.2 hM
    cases a2 with
    | none => exact absurd (recs_none h2) hM
    | some A2 =>
      have hh : ∀ (C : Array Value), (w.drew.alloc (.cells C 38)).heap[w.heap.size]? = some (.cells C 38 (0, 0)) := fun C => heap_new w.drew _
      have hB : ∀ (o : Obj), Below w.heap.size w (w.drew.alloc o) := fun o => ((Below.refl w.heap.size w).drew).alloc (Nat.le_refl _) o
      cases a1 with
      | none =>
        obtain rfl := recs_none h1
        have hr := run_append_nil (P := Try.prog) w 27 ty 38 i _ Try.underlying27 hi hz0 A2 M.length c2 (M.flatMap rcC) (hfl M) (recs_cells' h2) hM0 (by omega) (by rw [hz2]; omega)
        refine ⟨_, _, _, hr, ?_, hB _⟩
        refine recs_of_row (hh _) fun j hj => ?_
        rw [Array.getElem?_append_left (by simp; rw [← List.length_flatMap, hfl, hz1]; exact hj)]
        simp
      | some A1 =>
        have hr := run_append_grow (P := Try.prog) w 27 ty 38 i _ Try.underlying27 hi hz0 A1 L.length L.length (L.flatMap rcC) (hfl L) (recs_cells' h1) A2 M.length c2 (M.flatMap rcC) (hfl M) (recs_cells' h2) (by omega) (by omega) (by rw [hz2]; exact growslice_fits (by omega) (by omega))
        rw [← List.length_append] at hr
        refine ⟨_, _, _, hr, ?_, hB _⟩
        refine recs_of_row (hh _) fun j hj => ?_
        rw [Array.getElem?_append_left, List.append_toArray, ← List.flatMap_append]
        · simp
        · rw [List.append_toArray, ← List.flatMap_append, List.size_toArray, hfl, hz1]; exact hj
theorem wpList_two {ops : Array Oper} {rest : List Oper} {o : Oper} {a : Act} {Q : Exit → Act → World → Prop} (w : World) (hgd : o.guard = none) (s x : Operand)
    (ho : o.op = .call { callee := .builtin .append, args := #[s, x], argTypes := #[27, 27] }) (v1 v2 : Value) (hs : a.eval s = v1) (hx : a.eval x = v2) (v' : Value) (w' : World)
    (hr : (Builtin.append_ #[27, 27] o.type #[v1, v2]).run Try.prog w = .ok v' w') (hK : wpList Try.prog ops Q rest (a.put o.dst v') w') : wpList Try.prog ops Q (o :: rest) a w := by
  refine wpList_plain hgd fun K hK' => ?_
  unfold Oper.wp
  simp [execOp, ho, resolve, invoke, builtin, hs, hx, hr, Result.andThen]
  exact hK' _ _ hK
theorem owns_none {w : World} {B e n m cap : Nat} {xs : List Value} (h : w.ownsRow B e m (.slice none n cap) n xs) : cap = 0 := by
  rcases h.2 with ⟨hv, hn⟩ | ⟨g, cap', cur, hv, _⟩
  · simp only [Value.slice.injEq] at hv; exact hv.2.2
  · simp at hv
theorem fr_two (L M : List Rc) : (L.all rightR = true ∧ M.all rightR = true ∧ frL (L ++ M) = frL L ++ frL M ∧ frE (L ++ M) = 0 ∧ frE L = 0 ∧ frE M = 0) ∨ (frE L = 2 ∧ frL (L ++ M) = [] ∧ frE (L ++ M) = 2) ∨ (frE L = 0 ∧ frE M = 2 ∧ frL (L ++ M) = [] ∧ frE (L ++ M) = 2) := by
  cases h1 : L.all rightR
  · right; left
    have h : (L ++ M).all rightR = false := by rw [List.all_append, h1, Bool.false_and]
    exact ⟨(fr_no h1).2, (fr_no h).1, (fr_no h).2⟩
  · cases h2 : M.all rightR
    · right; right
      have h : (L ++ M).all rightR = false := by rw [List.all_append, h1, h2]; rfl
      exact ⟨(fr_yes h1).2, (fr_no h2).2, (fr_no h).1, (fr_no h).2⟩
    · left
      have h : (L ++ M).all rightR = true := by rw [List.all_append, h1, h2]; rfl
      exact ⟨rfl, rfl, by rw [(fr_yes h).1, (fr_yes h1).1, (fr_yes h2).1, frameL_append], (fr_yes h).2, (fr_yes h1).2, (fr_yes h2).2⟩
theorem frL_le (L : List Rc) (h : L.length ≤ 100) : (frL L).length ≤ 300000 := by
  cases hr : L.all rightR
  · rw [(fr_no hr).1]; simp
  · rw [(fr_yes hr).1]
    have := frameL_le L (by rw [List.all_eq_true] at hr; exact hr)
    omega
set_option maxRecDepth 100000 in
set_option maxHeartbeats 1000000 in
theorem recJoins_walk (v u : Value) (w : World) (hv : RecsV w v) (hu : RecsV w u) :
    Calls Try.prog 6 #[v, u] w fun e w' => e = .returned (.bool true) ∧ Below w.heap.size w w' := by
  obtain ⟨L, a, cap, rfl, hcap, hmax, hin⟩ := hv
  obtain ⟨L2, b, cap2, rfl, hcap2, hmax2, hin2⟩ := hu
  have HIN := hide hin
  have HIN2 := hide hin2
  have HRCS := hide (fun W h => records_any a cap L hcap hmax W h)
  have HRCS2 := hide (fun W h => records_any b cap2 L2 hcap2 hmax2 W h)
  have hm6 := cutL_six L
  have HMS := hide (cutL_short L)
  have hm62 := cutL_six L2
  have HMS2 := hide (cutL_short L2)
  unfold RIs at HRCS HRCS2
  generalize cutL L = M at *
  generalize cutL L2 = N at *
  have z := (zero_of_info tab_zero).1
  have hsz := tabC_size 256
  have hst := tab_store
  have HMK := hide (fun W => make_any W)
  have HFRA := hide (fun pb a c W ht h => frame_any pb 0 a c M (by omega) (fun r hr => Nat.le_trans (HMS.out r hr) (by omega)) W ht h)
  have HFRB := hide (fun pb a c W ht h => frame_any pb 0 a c N (by omega) (fun r hr => Nat.le_trans (HMS2.out r hr) (by omega)) W ht h)
  have HFRC := hide (fun pb a c W ht h => frame_any pb 0 a c (M ++ N) (by rw [List.length_append]; omega) (fun r hr => by
    rw [List.mem_append] at hr
    rcases hr with hr | hr
    · exact Nat.le_trans (HMS.out r hr) (by omega)
    · exact Nat.le_trans (HMS2.out r hr) (by omega)) W ht h)
  simp only [List.length_append] at HFRC
  have HCASE := hide (fr_two M N)
  have hl1 := frL_le M (by omega)
  have hl2 := frL_le N (by omega)
  have hmi : (M.length : Int) ≤ 6 := by omega
  clear hin hin2 hcap hmax hcap2 hmax2
  go_enter Try.func6, Try.ntmps6
  go_wp2_with fail
  refine (HMK.out _).mono ?_
  rintro e w1 ⟨rfl, hb1⟩
  have HT2 := hide (tabAt_new w1)
  have HB2 := hide (hb1.alloc hb1.size (.cells (tabC 256) 25))
  clear hb1
  go_wp2_with fail
  generalize w1.alloc (.cells (tabC 256) 25) = w2 at *
  generalize w1.heap.size = pb at *
  refine (HRCS.out _ (HIN.out.below HB2.out)).mono ?_
  rintro e w3 ⟨a1, a0, c1, c0, rfl, h1, -, hb3⟩
  have HA3 := hide (recs_of_owns h1)
  have hc1 := owns_cap h1
  have HT3 := hide (tabAt_kept HT2.out hb3)
  have HB3 := hide (HB2.out.trans (hb3.mono HB2.out.size))
  clear h1 hb3 HT2 HB2 HRCS hst hsz z
  go_wp2_with fail
  refine (HRCS2.out _ (HIN2.out.below HB3.out)).mono ?_
  rintro e w4 ⟨a2, a0', c2, c0', rfl, h2, -, hb4⟩
  have HQ4 := hide (recs_of_owns h2)
  have hc2 := owns_cap h2
  have hz2 : a2 = none → c2 = 0 := fun e => by subst e; exact owns_none h2
  have HA4 := hide (HA3.out.below hb4)
  have HT4 := hide (tabAt_kept HT3.out hb4)
  have HB4 := hide (HB3.out.trans (hb4.mono HB3.out.size))
  clear h2 hb4 HT3 HB3 HRCS2 HA3
  go_wp2_with fail
  refine (HFRA.out pb a1 c1 _ HT4.out HA4.out).mono ?_
  rintro e w5 ⟨rfl, hb5⟩
  have HA5 := hide (HA4.out.below hb5)
  have HQ5 := hide (HQ4.out.below hb5)
  have HT5 := hide (tabAt_kept HT4.out hb5)
  have HB5 := hide (HB4.out.trans (hb5.mono HB4.out.size))
  clear hb5 HA4 HQ4 HB4 HT4
  go_wp2_with fail
  refine (HFRB.out pb a2 c2 _ HT5.out HQ5.out).mono ?_
  rintro e w6 ⟨rfl, hb6⟩
  have HA6 := hide (HA5.out.below hb6)
  have HQ6 := hide (HQ5.out.below hb6)
  have HT6 := hide (tabAt_kept HT5.out hb6)
  have HB6 := hide (HB5.out.trans (hb6.mono HB5.out.size))
  clear hb6 HA5 HQ5 HB5 HT5
  obtain ⟨a3, c3, w7, hr7, hin7, hb7⟩ := append_two 27 w6 a1 a2 c2 M N HA6.out HQ6.out hc2 (by omega) (by omega) hz2
  rw [List.length_append] at hr7
  have HR7 := hide hr7
  have HIN7 := hide hin7
  have HT7 := hide (tabAt_kept HT6.out hb7)
  have HB7 := hide (HB6.out.trans (hb7.mono HB6.out.size))
  have hml : (M.length : Int) ≤ (c1 : Int) := by omega
  clear hr7 hin7 hb7 HA6 HQ6 HT6 HB6 hz2
  go_wp2_with (at_builtin; (with_reducible show wpList _ _ _ _ _ w6); refine wpList_two w6 rfl _ _ rfl (.slice a1 M.length M.length) (.slice a2 N.length c2) rfl rfl _ _ HR7.out ?_)
  refine (HFRC.out pb a3 c3 _ HT7.out HIN7.out).mono ?_
  rintro e w8 ⟨rfl, hb8⟩
  have HB8 := hide (HB7.out.trans (hb8.mono HB7.out.size))
  clear hb8 HT7 HIN7 HR7 HB7
  rcases HCASE.out with ⟨-, -, e1, e2, e3, e4⟩ | ⟨e1, e2, e3⟩ | ⟨e1, e2, e3, e4⟩
  · rw [e1, e2, e3, e4]
    have hcat : bs (frL M) ++ bs (frL N) = bs (frL M ++ frL N) := bs_append _ _
    have hsz : ¬ 9223372036854775807 < (bs (frL M)).size + (bs (frL N)).size := by rw [bs_size, bs_size]; omega
    clear e1 e2 e3 e4 HCASE
    generalize bs (frL M ++ frL N) = X at *
    generalize bs (frL M) = Y at *
    generalize bs (frL N) = Z at *
    go_wp2_with fail
    refine (wakes19 _).mono ?_
    rintro e w9 ⟨rfl, hb9⟩
    have HB9 := hide (HB8.out.trans (hb9.mono HB8.out.size))
    clear hb9 HB8
    go_wp2_with fail
    go_ret
    exact ⟨rfl, HB9.out⟩
  · rw [e1, e2, e3]
    clear e1 e2 e3 HCASE
    have he : (bs []).toList = [] := bs_asList []
    go_wp2_with fail
    refine (wakes19 _).mono ?_
    rintro e w9 ⟨rfl, hb9⟩
    have HB9 := hide (HB8.out.trans (hb9.mono HB8.out.size))
    clear hb9 HB8
    go_wp2_with fail
    go_ret
    exact ⟨rfl, HB9.out⟩
  · rw [e1, e2, e3, e4]
    clear e1 e2 e3 e4 HCASE
    have he : (bs []).toList = [] := bs_asList []
    go_wp2_with fail
    refine (wakes19 _).mono ?_
    rintro e w9 ⟨rfl, hb9⟩
    have HB9 := hide (HB8.out.trans (hb9.mono HB8.out.size))
    clear hb9 HB8
    go_wp2_with fail
    go_ret
    exact ⟨rfl, HB9.out⟩

set_option maxRecDepth 100000 in
theorem recJoins_lifted (os : Os) (started : os.Started) (H : Type) (enc : TypeId × Value → H) :
    ReturnsInHanded {} Try.checked os 6 .any (Rows.recJoinsSpec.pre6 enc Try.prog Try.f6 Rows.recJoinsRow.domain false) (Rows.recJoinsSpec.post enc Try.prog Try.f6 false true false false) := by
  refine returnsInHanded_of_change (C := Try.checked) own started (by kernel_rfl) Try.func6
    (ChangeSpec.witness6 (enc := enc) (C := Try.checked) false ⟨#[], #[.slice none 0 0, .slice none 0 0], []⟩ 8 (by kernel_rfl) (by kernel_rfl) (by kernel_rfl) (by kernel_rfl)) ?_
  intro W base args ds gs before hval0 hW _ _
  have hval : ∀ (j : Nat) t v, Try.f6.params[j]? = some t → args[j]? = some v → Value.okWide Try.prog W .any base t v := hval0
  have hW' := hW
  obtain ⟨p, q, hA0, hV, rfl, hfz, hnd⟩ := hW
  have hA : DataW.TrodAll enc Try.prog W 0 (fun _ => true) true Try.f6.params.toList args.toList ds p := hA0
  rw [Try.params6] at hA hval
  obtain ⟨v0, vs0, d0, ds0, p0, q0, hargs, rfl, rfl, h0, r0⟩ := trodAll_cons hA
  obtain ⟨v1, vs1, d1, ds1, p1, q1, rfl, rfl, rfl, h1, r1⟩ := trodAll_cons r0
  obtain ⟨rfl, rfl, rfl⟩ := trodAll_nil r1
  obtain rfl : args = #[v0, v1] := by cases args; simp_all
  obtain ⟨rfl, rfl⟩ := trodVars_none hV
  have z0 := open_recs (hval 0 22 v0 rfl rfl) h0
  have z1 := open_recs (hval 1 22 v1 rfl rfl) h1
  clear hA0 hval0
  refine (recJoins_walk v0 v1 W z0 z1).mono fun e W' ⟨he, hb⟩ => ?_
  subst he
  exact ⟨_, rfl, post_law laidOut (of_decide_eq_true (by kernel_rfl)) rfl rfl Try.underlying4 hW' ⟨rfl, rfl, rfl⟩ hb⟩

/-- THE STATEMENT -/
theorem recJoins_holds : Rows.RecJoinsSaid :=
  OpenClaim.holds_of_wide 6 Try.f6 rfl rfl rfl rfl rfl rfl rfl ⟨rfl, rfl, rfl, rfl, rfl⟩ rfl rfl rfl rfl rfl (by kernel_rfl) Try.func6 (by kernel_rfl)
    (of_decide_eq_true (by kernel_rfl)) (by unfold Func.isWrapper; first | (rw [if_pos (by decide +kernel)]; kernel_rfl) | (rw [if_neg (by decide +kernel)]; exact ⟨rfl, rfl⟩))
    (fun os started H enc _ => recJoins_lifted os started H enc)

end Go.Proofs.Ytdjaldkjpmcbdaa
