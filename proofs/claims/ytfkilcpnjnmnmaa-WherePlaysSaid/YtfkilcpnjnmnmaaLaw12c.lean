/-
  Layer 12: WhereAgrees.
-/
import Derived.Test.YtfkilcpnjnmnmaaLaw12b
namespace Go.Proofs.Ytfkilcpnjnmnmaa
set_option linter.unusedSimpArgs false
set_option linter.unusedVariables false
open Go.RowKit Go.WideShapes Go.ChangeShapes Go.ChangeAt Go.Maps W

theorem wpList_wanted {P : Program} {w : World} {ops : Array Oper} {rest : List Oper} {o : Oper} {a : Act} {Q : Exit → Act → World → Prop} (hw : Region.wanted o (yielded ops a.tmps) = true)
    (h : ∀ K : Act → World → Prop, (∀ a w, wpList P ops Q rest a w → K a w) → o.wp P a w K Q) : wpList P ops Q (o :: rest) a w :=
  wpList_step fun K hK => by simp only [hw, if_true]; exact h K hK
/-- 'len(m)', at an operation that a guard lets -/
theorem wpList_mapLen_g {P : Program} (w : World) {ops : Array Oper} {rest : List Oper} {o : Oper} {a : Act} {Q : Exit → Act → World → Prop}
    (hg : Region.wanted o (yielded ops a.tmps) = true) (m : Operand) (t : TypeId) (hop : o.op = Op.call { callee := Callee.builtin Builtin.len, args := #[m], argTypes := #[t] })
    (k e : TypeId) (ht : P.underlying t = some (.map k e)) (b n c : Nat) (f : Lit → Option Value) (hm : a.eval m = .map (some b)) (hown : MapIs w P k b n c f)
    (hK : wpList P ops Q rest (a.put o.dst (.int .i64 c)) w) :
    wpList P ops Q (o :: rest) a w := by
  refine wpList_wanted hg fun K' hK' => ?_
  unfold Oper.wp
  simp [execOp, hop, resolve, invoke, builtin, hm, hown.len ht o.type, Result.andThen]
  exact hK' _ _ hK
theorem putE_cases (S : Spots) (i : Nat) (x : Int × Int) : putE S i x = 0 ∨ (putE S i x = 16 ∧ ∃ j, owner S x = some j ∧ j ≠ i) := by
  unfold putE
  cases h : owner S x with
  | none => exact .inl rfl
  | some j =>
    by_cases e : j = i
    · left; simp [e]
    · right; exact ⟨by simp [e], j, rfl, e⟩
theorem zero_boolP (w : World) : (zeroValue 4).run Try.prog w = .ok (.bool false) w := by kernel_rfl
/-- what has been seen of the first k -/
def SeenK (S : Spots) (k : Nat) (f : Lit → Option Value) : Prop := ∀ b p, I64 b → I64 p → f (pk b p) = if ∃ j, j < k ∧ S[j]? = some (some (b, p)) then some (.bool true) else none
theorem seen_none (S : Spots) : SeenK S 0 (fun _ => none) := fun b p _ _ => by rw [if_neg (fun ⟨j, hj, _⟩ => by omega)]
theorem seen_skip {S : Spots} {k : Nat} {f : Lit → Option Value} (h : SeenK S k f) (hs : S.getD k none = none) : SeenK S (k + 1) f := fun b p hb hp => by
  rw [h b p hb hp]
  have : (∃ j, j < k + 1 ∧ S[j]? = some (some (b, p))) ↔ ∃ j, j < k ∧ S[j]? = some (some (b, p)) := by
    constructor
    · rintro ⟨j, hj, h2⟩
      by_cases e : j = k
      · subst e
        simp only [List.getD, h2, Option.getD_some] at hs
        cases hs
      · exact ⟨j, by omega, h2⟩
    · rintro ⟨j, hj, h2⟩; exact ⟨j, by omega, h2⟩
  simp only [this]
theorem seen_free {S : Spots} {k : Nat} {f : Lit → Option Value} (h : SeenK S k f) (hi : Inj S) {b p : Int} (hs : S.getD k none = some (b, p)) (hb : I64 b) (hp : I64 p) : f (pk b p) = none := by
  rw [h b p hb hp, if_neg]
  rintro ⟨j, hj, h2⟩
  have := hi j k _ h2 (getD_some hs)
  omega
theorem seen_put {S : Spots} {k : Nat} {f : Lit → Option Value} (h : SeenK S k f) {b p : Int} (hs : S.getD k none = some (b, p)) (hb : I64 b) (hp : I64 p) : SeenK S (k + 1) (fun l => if l.sameKey (pk b p) = true then some (.bool true) else f l) := fun b' p' hb' hp' => by
  dsimp only
  have hs2 := getD_some hs
  by_cases e : pk b' p' = pk b p
  · obtain ⟨rfl, rfl⟩ := pk_inj hb' hp' hb hp e
    rw [if_pos (WideAt.sameKey_self (isKey_pk _ _)), if_pos ⟨k, by omega, hs2⟩]
  · rw [if_neg (fun h => e (WideAt.sameKey_eq h)), h b' p' hb' hp']
    have : (∃ j, j < k + 1 ∧ S[j]? = some (some (b', p'))) ↔ ∃ j, j < k ∧ S[j]? = some (some (b', p')) := by
      constructor
      · rintro ⟨j, hj, h2⟩
        by_cases ej : j = k
        · subst ej
          rw [hs2] at h2
          simp only [Option.some.injEq, Prod.mk.injEq] at h2
          exact absurd (by rw [h2.1, h2.2]) e
        · exact ⟨j, by omega, h2⟩
      · rintro ⟨j, hj, h2⟩; exact ⟨j, by omega, h2⟩
    simp only [this]
theorem total_take {S : Spots} {k : Nat} (hk : k < S.length) : total (S.take (k + 1)) = total (S.take k) + if (S.getD k none).isSome = true then 1 else 0 := by
  unfold total
  rw [List.take_succ_eq_append_getElem hk, List.countP_append]
  simp only [List.countP_cons, List.countP_nil, List.getD, List.getElem?_eq_getElem hk, Option.getD_some]
  omega
def sumL (S : Spots) (k : Nat) : Nat := ((List.range k).map (fun b : Nat => liveN S (b : Int))).sum
theorem sumL_next (S : Spots) (k : Nat) : sumL S (k + 1) = sumL S k + liveN S (k : Int) := by simp [sumL, List.range_succ]
theorem sumL_five : ∀ S : Spots, (∀ x ∈ S, ∀ b p, x = some (b, p) → 0 ≤ b ∧ b < 5) → sumL S 5 = total S
  | [], _ => rfl
  | x :: S, h => by
    have ih := sumL_five S (fun y hy => h y (by simp [hy]))
    have e : ∀ T : Spots, sumL T 5 = liveN T 0 + liveN T 1 + liveN T 2 + liveN T 3 + liveN T 4 := fun T => by simp [sumL, List.range_succ]; omega
    rw [e] at ih ⊢
    unfold liveN total at *
    simp only [List.countP_cons]
    cases x with
    | none => simp; omega
    | some y =>
      obtain ⟨b, p⟩ := y
      obtain ⟨b0, b1⟩ := h (some (b, p)) (by simp) b p rfl
      have : b = 0 ∨ b = 1 ∨ b = 2 ∨ b = 3 ∨ b = 4 := by omega
      rcases this with rfl | rfl | rfl | rfl | rfl <;> simp <;> omega
theorem sumL_le (S : Spots) (k : Nat) : sumL S k ≤ k * S.length := by
  induction k with
  | zero => simp [sumL]
  | succ k ih => rw [sumL_next, Nat.succ_mul]; have := Nat.le_trans (live_le S (k : Int)) (total_le S); omega
set_option maxRecDepth 100000 in
set_option maxHeartbeats 1000000 in
theorem whereAgrees_few (zs : List Int) (hzs : ∀ z ∈ zs, (Lit.int .u16 z).wf = true) (a : Option Addr) (cap : Nat) (hcap : zs.length ≤ cap) (hmaxl : zs.length ≤ 9223372036854775807) (w : World)
    (hat : ∀ i, i < zs.length → ∃ b off, a = some ⟨b, off, none⟩ ∧ b < w.heap.size ∧ w.cell? ⟨b, off + i, none⟩ = some (.int .u16 (zs.getD i 0))) (hbig : zs.length ≤ 100) :
    Calls Try.prog 5 #[.slice a zs.length cap] w fun e w' => e = .returned (.bool true) ∧ Below w.heap.size w w' := by
  have HZS := hide hzs
  have HAT := hide hat
  clear hzs hat
  have hmm := @run_makeMap Try.prog
  go_enter Try.func5, Try.ntmps5
  go_wp2_with fail
  refine (newW_yes 5 6 20 (by omega) (by omega) (by omega) (by omega) (by omega) (by omega) _).mono ?_
  rintro e w1 ⟨p, q, o, l', rfl, hW, hb, gp, gq, go, gl⟩
  have HG := hide (show ∀ r ∈ [q, o, l'], w.heap.size ≤ r by simp; omega)
  have H1 := hide hW
  have B1 := hide hb
  clear hW hb gp gq go gl
  go_wp2_with fail
  refine (wakes12 _).mono ?_
  rintro e w2 ⟨rfl, hb⟩
  have H2 := hide (H1.out.below hb)
  have B2 := hide (B1.out.trans (hb.mono B1.out.size))
  clear hb H1 B1
  go_wp2_with fail
  go_loopw [36] (fun i W => ∃ (k : Nat) (S : Spots), k ≤ zs.length ∧ i = .int .i64 k ∧ S.length = 20 ∧ WhereAt W p q o l' 6 5 S ∧ Below w.heap.size w W) (fun i _ => zs.length - (intOf i).toNat)
  case atStart => exact ⟨0, _, by omega, rfl, List.length_replicate, H2.out, B2.out⟩
  case round =>
    clear H2 B2
    obtain ⟨k, S, hk, rfl, hSL, hX, hB⟩ := hrel
    have HX := hide hX
    have HB := hide hB
    have HSL := hide hSL
    by_cases hlt : k < zs.length
    · as_aux_lemma =>
        obtain ⟨b, off, rfl, hb, c0⟩ := HAT.out k (by omega)
        have d0 : wr.cell? ⟨b, off + k, none⟩ = some (.int .u16 (zs.getD k 0)) := (hB.cell (p := ⟨b, off + k, none⟩) hb).trans c0
        obtain ⟨x0, x1⟩ := wf_u16 (wf_getD HZS.out k (by omega))
        generalize zs.getD k 0 = x at *
        have hbw : b < wr.heap.size := Nat.lt_of_lt_of_le hb hB.size
        have E1 := u16_quo x 20 5 x0 x1 (by omega) (by omega)
        have E2 := u16_quo x 100 6 x0 x1 (by omega) (by omega)
        have HU := hide (show (0 ≤ x / 20 % 5 ∧ x / 20 % 5 < 5) ∧ (0 ≤ x / 100 % 6 ∧ x / 100 % 6 < 6) by omega)
        have HXB := hide (HX.out.below ((Below.refl _ _).alloc (Nat.le_refl _) (.cells #[.int .i64 (x / 20 % 5), .int .i64 (x / 100 % 6)] 35)))
        have HBB := hide (HB.out.alloc HB.out.size (.cells #[.int .i64 (x / 20 % 5), .int .i64 (x / 100 % 6)] 35))
        have HNB := hide (heap_new wr (.cells #[.int .i64 (x / 20 % 5), .int .i64 (x / 100 % 6)] 35))
        have HLT := hide HX.out.lt
        clear hX hB hSL hb c0
        by_cases hz : x / 600 % 4 = 0
        · have hz2 : ((IntKind.u16.wrap (x.tdiv 600)).tmod 4 == 0) = true := by
            have e : x.tdiv 600 = x / 600 := Int.tdiv_eq_ediv_of_nonneg x0
            rw [e, IntWalk.u16_in _ ⟨by omega, by omega⟩, IntWalk.rem_in _ _ (by omega), hz]; rfl
          clear hz
          go_wp2_with fail
          refine (drop_int HXB.out (x % 20) (by omega) (by rw [HSL.out]; omega)).mono ?_
          rintro e w5 ⟨rfl, hx5, ho5⟩
          have HX5 := hide hx5
          have HB5 := hide (ho5.below HBB.out HG.out HBB.out.size)
          clear hx5 ho5 d0 E1 E2 hz2
          go_wp2_with fail
          go_roundw
          case rel => exact ⟨k + 1, _, by omega, by go_num, by rw [List.length_set]; exact HSL.out, HX5.out, HB5.out⟩
          case measure => simp [intOf]; omega
        · have hz2 : ((IntKind.u16.wrap (x.tdiv 600)).tmod 4 == 0) = false := by
            have e : x.tdiv 600 = x / 600 := Int.tdiv_eq_ediv_of_nonneg x0
            rw [e, IntWalk.u16_in _ ⟨by omega, by omega⟩, IntWalk.rem_in _ _ (by omega)]
            simpa using hz
          clear hz
          go_wp2_with fail
          have hpu := put_int HXB.out (x % 20) (x / 20 % 5) (x / 100 % 6) (by omega) (by rw [HSL.out]; omega) HU.out.1.1 HU.out.1.2 HU.out.2.1 HU.out.2.2
          have HPU := hide hpu
          have HCS := hide (putE_cases S (x % 20).toNat (x / 20 % 5, x / 100 % 6))
          have HS5 := hide ((putS_len S (x % 20).toNat (x / 20 % 5, x / 100 % 6)).trans HSL.out)
          have HIX := hide (show I64 (x / 20 % 5) ∧ I64 (x / 100 % 6) from ⟨⟨by omega, by omega⟩, ⟨by omega, by omega⟩⟩)
          have HM20 := hide (show (((x % 20).toNat : Nat) : Int) = x % 20 by omega)
          clear hpu d0 E1 E2 hz2 hbw
          generalize x / 20 % 5 = u1 at *
          generalize x / 100 % 6 = u2 at *
          generalize x % 20 = u0 at *
          refine HPU.out.mono ?_
          rintro e w5 ⟨rfl, hx5, ho5⟩
          have HX5 := hide hx5
          have HB5 := hide (ho5.below HBB.out HG.out HBB.out.size)
          have hn5 := (ho5.block _ (heap_lt HNB.out) (by have := HLT.out; simp; omega)).trans HNB.out
          have m0 : w5.cell? ⟨wr.heap.size, 0, none⟩ = some (.int .i64 u1) := by rw [cell_of_block hn5]; rfl
          have m1 : w5.cell? ⟨wr.heap.size, 1, none⟩ = some (.int .i64 u2) := by rw [cell_of_block hn5]; rfl
          clear hx5 ho5 hn5 HPU HXB HBB HNB
          rcases HCS.out with hE | ⟨hE, j, hj, hji⟩
          · rw [hE]
            clear hE HCS
            go_wp2_with fail
            go_roundw
            case rel => exact ⟨k + 1, _, by omega, by go_num, HS5.out, HX5.out, HB5.out⟩
            case measure => simp [intOf]; omega
          · rw [hE]
            have HPS := hide (show putS S u0.toNat (u1, u2) = S by unfold putS; rw [hE, if_neg (by omega)])
            have HOZ := hide (show ownZ S u1 u2 = (j : Int) by unfold ownZ; rw [hj])
            have tj : ((j : Int) == u0) = false := by
              have := HM20.out
              simp
              omega
            clear hE HCS hj hji
            rw [HPS.out] at HX5
            go_wp2_with fail
            refine (owner_any HX5.out u1 u2 HIX.out.1 HIX.out.2).mono ?_
            rintro e w6 ⟨rfl, hb6⟩
            rw [HOZ.out]
            have HX6 := hide (HX5.out.below hb6)
            have HB6 := hide (HB5.out.trans (hb6.mono HB5.out.size))
            clear hb6 m0 m1
            go_wp2_with fail
            go_roundw
            case rel => exact ⟨k + 1, _, by omega, by go_num, HSL.out, HX6.out, HB6.out⟩
            case measure => simp [intOf]; omega
    · obtain rfl : k = zs.length := by omega
      clear hX hB hSL HZS HAT hlt hk
      obtain ⟨wo, rfl⟩ : ∃ wo : World, wo = wr := ⟨_, rfl⟩
      have HX1 := hide (HX.out.below ((Below.refl _ _).alloc (Nat.le_refl _) (.map #[] 0)))
      have HB1 := hide (HB.out.alloc HB.out.size (.map #[] 0))
      have HM1 := hide (show MapIs (wo.alloc (.map #[] 0)) Try.prog 35 wo.heap.size (total (S.take 0)) (total (S.take 0)) (fun _ => none) from MapIs.made wo Try.prog 35)
      have HAP := hide (show p < wo.heap.size ∧ q < wo.heap.size ∧ o < wo.heap.size ∧ l' < wo.heap.size ∧ w.heap.size ≤ wo.heap.size from ⟨HX.out.lt.1, HX.out.lt.2.1, HX.out.lt.2.2.1, HX.out.lt.2.2.2, HB.out.size⟩)
      clear HX HB
      go_wp2_with fail
      generalize wo.alloc (.map #[] 0) = wz at *
      generalize wo.heap.size = bm at *
      as_aux_lemma =>
        go_loopw [83] (fun i W => ∃ (k : Nat) (f : Lit → Option Value), k ≤ 20 ∧ i = .int .i64 k ∧ SeenK S k f ∧ WhereAt W p q o l' 6 5 S ∧ MapIs W Try.prog 35 bm (total (S.take k)) (total (S.take k)) f ∧ Below w.heap.size w W) (fun i _ => 20 - (intOf i).toNat)
        case atStart => exact ⟨0, _, by omega, rfl, seen_none S, HX1.out, HM1.out, HB1.out⟩
        case round =>
          clear HX1 HM1 HB1
          obtain ⟨k2, f, hk2, rfl, hSK, hX, hM, hB⟩ := hrel
          have HX := hide hX
          have HM := hide hM
          have HB := hide hB
          have HSK := hide hSK
          clear hX hM hB hSK
          by_cases hlt2 : k2 < 20
          · have HTT := hide (total_take (S := S) (k := k2) (by rw [HSL.out]; exact hlt2))
            cases hs : S.getD k2 none with
            | none =>
              have HS := hide hs
              clear hs
              go_wp2_with fail
              refine (at_none HX.out k2 (by rw [HSL.out]; exact hlt2) HS.out).mono ?_
              rintro e w7 ⟨rfl, hb⟩
              have HX7 := hide ((HX.out.below hb).below ((Below.refl _ _).alloc (Nat.le_refl _) (.cells #[.int .i64 0, .int .i64 0] 35)))
              have HM7 := hide ((HM.out.below hb).below ((Below.refl _ _).alloc (Nat.le_refl _) (.cells #[.int .i64 0, .int .i64 0] 35)))
              have HB7 := hide ((HB.out.trans (hb.mono HB.out.size)).alloc (Nat.le_trans HB.out.size hb.size) (.cells #[.int .i64 0, .int .i64 0] 35))
              clear hb HX HM HB
              go_wp2_with fail
              go_roundw
              case rel => exact ⟨k2 + 1, f, by omega, by go_num, seen_skip HSK.out HS.out, HX7.out, by rw [HTT.out, HS.out]; exact HM7.out, HB7.out⟩
              case measure => simp [intOf]; omega
            | some y =>
              obtain ⟨y1, y2⟩ := y
              have HS := hide hs
              clear hs
              have HI := hide (show I64 y1 ∧ I64 y2 from by have := HX.out.ok k2 y1 y2 (getD_some HS.out); exact ⟨⟨by omega, by omega⟩, ⟨by omega, by omega⟩⟩)
              have HFR := hide (seen_free HSK.out HX.out.inj HS.out HI.out.1 HI.out.2)
              have HOW := hide (show ownZ S y1 y2 = (k2 : Int) by unfold ownZ; rw [owner_is HX.out.inj (getD_some HS.out)])
              go_wp2_with fail
              refine (at_some HX.out k2 (by rw [HSL.out]; exact hlt2) y1 y2 HS.out).mono ?_
              rintro e w7 ⟨rfl, hb⟩
              have HX7 := hide ((HX.out.below hb).below ((Below.refl _ _).alloc (Nat.le_refl _) (.cells #[.int .i64 y1, .int .i64 y2] 35)))
              have HM7 := hide ((HM.out.below hb).below ((Below.refl _ _).alloc (Nat.le_refl _) (.cells #[.int .i64 y1, .int .i64 y2] 35)))
              have HB7 := hide ((HB.out.trans (hb.mono HB.out.size)).alloc (Nat.le_trans HB.out.size hb.size) (.cells #[.int .i64 y1, .int .i64 y2] 35))
              have HN7 := hide (heap_new w7 (.cells #[.int .i64 y1, .int .i64 y2] 35))
              have HL7 := hide (show bm ≠ w7.heap.size ∧ p ≠ w7.heap.size from ⟨by have := HM.out.lt; have := hb.size; omega, by have := HX.out.lt.1; have := hb.size; omega⟩)
              have hlk := HM7.out.look KeyedP Try.underlying55 (zero_boolP _) (key_place HI.out.1 HI.out.2) (isKey_pk y1 y2)
              rw [HFR.out] at hlk
              rw [show plc y1 y2 = .agg #[.int .i64 y1, .int .i64 y2] from rfl] at hlk
              simp only [Option.getD_none] at hlk
              clear hb HX HM HB
              go_wp2_with fail
              clear hlk
              refine (owner_any HX7.out y1 y2 HI.out.1 HI.out.2).mono ?_
              rintro e w8 ⟨rfl, hb⟩
              rw [HOW.out]
              have HX8 := hide (HX7.out.below hb)
              have HM8 := hide (HM7.out.below hb)
              have HB8 := hide (HB7.out.trans (hb.mono HB7.out.size))
              have HN8 := hide ((hb.block _ (heap_lt HN7.out)).trans HN7.out)
              generalize w7.heap.size = Bw at *
              have c0 : w8.cell? ⟨Bw, 0, none⟩ = some (.int .i64 y1) := by rw [cell_of_block HN8.out]; rfl
              have c1 : w8.cell? ⟨Bw, 1, none⟩ = some (.int .i64 y2) := by rw [cell_of_block HN8.out]; rfl
              clear hb HX7 HM7 HB7 HN7
              have HSZ := hide (show total (S.take k2) < maxLen from by have := total_le (S.take k2); have h2 : (S.take k2).length ≤ 20 := (by rw [List.length_take, HSL.out]; omega); unfold maxLen; omega)
              go_wp2_with (at_mapUpdate; refine wpList_mapStore _ rfl _ _ _ 55 rfl 35 4 KeyedP Try.underlying55 bm _ _ f rfl HM8.out HSZ.out _ (.bool true) (pk y1 y2) rfl rfl (key_place HI.out.1 HI.out.2) (isKey_pk _ _) ?_; intro w9 hm9 hg9; have HM9 := hide hm9.tight; have HO9 := hide (only_of_grown hg9); clear hm9 hg9)
              have HX9 := hide (HX8.out.kept (HO9.out.block _ HX8.out.lt.1 (by have := HAP.out; omega)) (HO9.out.block _ HX8.out.lt.2.1 (by have := HAP.out; omega)) (HO9.out.block _ HX8.out.lt.2.2.1 (by have := HAP.out; omega)) (HO9.out.block _ HX8.out.lt.2.2.2 (by have := HAP.out; omega)))
              have HB9 := hide (HO9.out.below HB8.out HAP.out.2.2.2.2 HB8.out.size)
              go_roundw
              case rel => exact ⟨k2 + 1, _, by omega, by go_num, seen_put HSK.out HS.out HI.out.1 HI.out.2, HX9.out, by have := HM9.out; rw [HFR.out] at this; rw [HTT.out, HS.out]; exact this, HB9.out⟩
              case measure => simp [intOf]; omega
          · obtain rfl : k2 = 20 := by omega
            rw [show ((20 : Nat) : Int) = 20 from rfl]
            have HTK := hide (show S.take 20 = S by rw [← HSL.out]; exact List.take_length)
            rw [HTK.out] at HM
            clear hlt2 hk2
            obtain ⟨wo2, rfl⟩ : ∃ wo2 : World, wo2 = wr := ⟨_, rfl⟩
            go_wp2_with fail
            go_loopw [11, 106] (fun s i W => ∃ k : Nat, k ≤ 5 ∧ i = .int .i64 k ∧ s = .int .i64 (sumL S k : Nat) ∧ WhereAt W p q o l' 6 5 S ∧ MapIs W Try.prog 35 bm (total S) (total S) f ∧ Below w.heap.size w W) (fun s i _ => 5 - (intOf i).toNat)
            case atStart => exact ⟨0, by omega, rfl, rfl, HX.out, HM.out, HB.out⟩
            case round =>
              clear HX HM HB
              obtain ⟨k3, hk3, rfl, rfl, hX, hM, hB⟩ := hrel
              have HX := hide hX
              have HM := hide hM
              have HB := hide hB
              clear hX hM hB
              by_cases hlt3 : k3 < 5
              · have hsl := sumL_le S k3
                have hll := Nat.le_trans (live_le S (k3 : Int)) (total_le S)
                rw [HSL.out] at hsl hll
                have HNX := hide (sumL_next S k3)
                have HLV := hide (live_yes HX.out k3 (by omega))
                have h100 : k3 * 20 ≤ 100 := by omega
                have hs0 : ((sumL S k3 : Nat) : Int) ≤ 100 := by omega
                clear h100
                have hl0 : ((liveN S (k3 : Int) : Nat) : Int) ≤ 20 := by omega
                have hs1 : (0 : Int) ≤ ((sumL S k3 : Nat) : Int) := by omega
                have hl1 : (0 : Int) ≤ ((liveN S (k3 : Int) : Nat) : Int) := by omega
                have HEQ := hide (show ((sumL S (k3 + 1) : Nat) : Int) = ((sumL S k3 : Nat) : Int) + ((liveN S (k3 : Int) : Nat) : Int) by rw [HNX.out]; rfl)
                clear hsl hll HNX
                generalize ((sumL S k3 : Nat) : Int) = sv at *
                generalize ((liveN S (k3 : Int) : Nat) : Int) = lv at *
                go_wp2_with fail
                refine HLV.out.mono ?_
                rintro e w9 ⟨rfl, rfl⟩
                go_wp2
                go_roundw
                case rel => exact ⟨k3 + 1, by omega, by go_num, by rw [HEQ.out], HX.out, HM.out, HB.out⟩
                case measure => simp [intOf]; omega
              · obtain rfl : k3 = 5 := by omega
                have HSUM := hide (sumL_five S (fun x hx b p e => by
                  obtain ⟨i, hi, he⟩ := List.getElem_of_mem hx
                  have := HX.out.ok i b p (by rw [List.getElem?_eq_getElem hi, he, e])
                  omega))
                rw [HSUM.out]
                go_wp2_with fail
                refine (total_any HX.out).mono ?_
                rintro e w9 ⟨rfl, rfl⟩
                have HMX := hide HM.out
                generalize total S = t at *
                go_wp2_with (at_len; refine wpList_mapLen_g _ (by rfl) _ 55 rfl 35 4 Try.underlying55 bm t t f rfl HMX.out ?_)
                go_ret
                exact ⟨rfl, HB.out⟩
set_option maxRecDepth 100000 in
set_option maxHeartbeats 1000000 in
theorem whereAgrees_big (zs : List Int) (hzs : ∀ z ∈ zs, (Lit.int .u16 z).wf = true) (a : Option Addr) (cap : Nat) (hcap : zs.length ≤ cap) (hmaxl : zs.length ≤ 9223372036854775807) (w : World)
    (hat : ∀ i, i < zs.length → ∃ b off, a = some ⟨b, off, none⟩ ∧ b < w.heap.size ∧ w.cell? ⟨b, off + i, none⟩ = some (.int .u16 (zs.getD i 0))) (hbig : 100 < zs.length) :
    Calls Try.prog 5 #[.slice a zs.length cap] w fun e w' => e = .returned (.bool true) ∧ Below w.heap.size w w' := by
  have HZS := hide hzs
  have HAT := hide hat
  clear hzs hat
  have hmm := @run_makeMap Try.prog
  go_enter Try.func5, Try.ntmps5
  go_wp2_with fail
  refine (newW_yes 5 6 20 (by omega) (by omega) (by omega) (by omega) (by omega) (by omega) _).mono ?_
  rintro e w1 ⟨p, q, o, l', rfl, hW, hb, gp, gq, go, gl⟩
  have HG := hide (show ∀ r ∈ [q, o, l'], w.heap.size ≤ r by simp; omega)
  have H1 := hide hW
  have B1 := hide hb
  clear hW hb gp gq go gl
  go_wp2_with fail
  refine (wakes12 _).mono ?_
  rintro e w2 ⟨rfl, hb⟩
  have H2 := hide (H1.out.below hb)
  have B2 := hide (B1.out.trans (hb.mono B1.out.size))
  clear hb H1 B1
  go_wp2_with fail
  go_loopw [36] (fun i W => ∃ (k : Nat) (S : Spots), k ≤ 100 ∧ i = .int .i64 k ∧ S.length = 20 ∧ WhereAt W p q o l' 6 5 S ∧ Below w.heap.size w W) (fun i _ => 100 - (intOf i).toNat)
  case atStart => exact ⟨0, _, by omega, rfl, List.length_replicate, H2.out, B2.out⟩
  case round =>
    clear H2 B2
    obtain ⟨k, S, hk, rfl, hSL, hX, hB⟩ := hrel
    have HX := hide hX
    have HB := hide hB
    have HSL := hide hSL
    by_cases hlt : k < 100
    · as_aux_lemma =>
        obtain ⟨b, off, rfl, hb, c0⟩ := HAT.out k (by omega)
        have d0 : wr.cell? ⟨b, off + k, none⟩ = some (.int .u16 (zs.getD k 0)) := (hB.cell (p := ⟨b, off + k, none⟩) hb).trans c0
        obtain ⟨x0, x1⟩ := wf_u16 (wf_getD HZS.out k (by omega))
        generalize zs.getD k 0 = x at *
        have hbw : b < wr.heap.size := Nat.lt_of_lt_of_le hb hB.size
        have E1 := u16_quo x 20 5 x0 x1 (by omega) (by omega)
        have E2 := u16_quo x 100 6 x0 x1 (by omega) (by omega)
        have HU := hide (show (0 ≤ x / 20 % 5 ∧ x / 20 % 5 < 5) ∧ (0 ≤ x / 100 % 6 ∧ x / 100 % 6 < 6) by omega)
        have HXB := hide (HX.out.below ((Below.refl _ _).alloc (Nat.le_refl _) (.cells #[.int .i64 (x / 20 % 5), .int .i64 (x / 100 % 6)] 35)))
        have HBB := hide (HB.out.alloc HB.out.size (.cells #[.int .i64 (x / 20 % 5), .int .i64 (x / 100 % 6)] 35))
        have HNB := hide (heap_new wr (.cells #[.int .i64 (x / 20 % 5), .int .i64 (x / 100 % 6)] 35))
        have HLT := hide HX.out.lt
        clear hX hB hSL hb c0
        by_cases hz : x / 600 % 4 = 0
        · have hz2 : ((IntKind.u16.wrap (x.tdiv 600)).tmod 4 == 0) = true := by
            have e : x.tdiv 600 = x / 600 := Int.tdiv_eq_ediv_of_nonneg x0
            rw [e, IntWalk.u16_in _ ⟨by omega, by omega⟩, IntWalk.rem_in _ _ (by omega), hz]; rfl
          clear hz
          go_wp2_with fail
          refine (drop_int HXB.out (x % 20) (by omega) (by rw [HSL.out]; omega)).mono ?_
          rintro e w5 ⟨rfl, hx5, ho5⟩
          have HX5 := hide hx5
          have HB5 := hide (ho5.below HBB.out HG.out HBB.out.size)
          clear hx5 ho5 d0 E1 E2 hz2
          go_wp2_with fail
          go_roundw
          case rel => exact ⟨k + 1, _, by omega, by go_num, by rw [List.length_set]; exact HSL.out, HX5.out, HB5.out⟩
          case measure => simp [intOf]; omega
        · have hz2 : ((IntKind.u16.wrap (x.tdiv 600)).tmod 4 == 0) = false := by
            have e : x.tdiv 600 = x / 600 := Int.tdiv_eq_ediv_of_nonneg x0
            rw [e, IntWalk.u16_in _ ⟨by omega, by omega⟩, IntWalk.rem_in _ _ (by omega)]
            simpa using hz
          clear hz
          go_wp2_with fail
          have hpu := put_int HXB.out (x % 20) (x / 20 % 5) (x / 100 % 6) (by omega) (by rw [HSL.out]; omega) HU.out.1.1 HU.out.1.2 HU.out.2.1 HU.out.2.2
          have HPU := hide hpu
          have HCS := hide (putE_cases S (x % 20).toNat (x / 20 % 5, x / 100 % 6))
          have HS5 := hide ((putS_len S (x % 20).toNat (x / 20 % 5, x / 100 % 6)).trans HSL.out)
          have HIX := hide (show I64 (x / 20 % 5) ∧ I64 (x / 100 % 6) from ⟨⟨by omega, by omega⟩, ⟨by omega, by omega⟩⟩)
          have HM20 := hide (show (((x % 20).toNat : Nat) : Int) = x % 20 by omega)
          clear hpu d0 E1 E2 hz2 hbw
          generalize x / 20 % 5 = u1 at *
          generalize x / 100 % 6 = u2 at *
          generalize x % 20 = u0 at *
          refine HPU.out.mono ?_
          rintro e w5 ⟨rfl, hx5, ho5⟩
          have HX5 := hide hx5
          have HB5 := hide (ho5.below HBB.out HG.out HBB.out.size)
          have hn5 := (ho5.block _ (heap_lt HNB.out) (by have := HLT.out; simp; omega)).trans HNB.out
          have m0 : w5.cell? ⟨wr.heap.size, 0, none⟩ = some (.int .i64 u1) := by rw [cell_of_block hn5]; rfl
          have m1 : w5.cell? ⟨wr.heap.size, 1, none⟩ = some (.int .i64 u2) := by rw [cell_of_block hn5]; rfl
          clear hx5 ho5 hn5 HPU HXB HBB HNB
          rcases HCS.out with hE | ⟨hE, j, hj, hji⟩
          · rw [hE]
            clear hE HCS
            go_wp2_with fail
            go_roundw
            case rel => exact ⟨k + 1, _, by omega, by go_num, HS5.out, HX5.out, HB5.out⟩
            case measure => simp [intOf]; omega
          · rw [hE]
            have HPS := hide (show putS S u0.toNat (u1, u2) = S by unfold putS; rw [hE, if_neg (by omega)])
            have HOZ := hide (show ownZ S u1 u2 = (j : Int) by unfold ownZ; rw [hj])
            have tj : ((j : Int) == u0) = false := by
              have := HM20.out
              simp
              omega
            clear hE HCS hj hji
            rw [HPS.out] at HX5
            go_wp2_with fail
            refine (owner_any HX5.out u1 u2 HIX.out.1 HIX.out.2).mono ?_
            rintro e w6 ⟨rfl, hb6⟩
            rw [HOZ.out]
            have HX6 := hide (HX5.out.below hb6)
            have HB6 := hide (HB5.out.trans (hb6.mono HB5.out.size))
            clear hb6 m0 m1
            go_wp2_with fail
            go_roundw
            case rel => exact ⟨k + 1, _, by omega, by go_num, HSL.out, HX6.out, HB6.out⟩
            case measure => simp [intOf]; omega
    · obtain rfl : k = 100 := by omega
      rw [show ((100 : Nat) : Int) = 100 from rfl]
      clear hX hB hSL HZS HAT hlt hk
      obtain ⟨wo, rfl⟩ : ∃ wo : World, wo = wr := ⟨_, rfl⟩
      have HX1 := hide (HX.out.below ((Below.refl _ _).alloc (Nat.le_refl _) (.map #[] 0)))
      have HB1 := hide (HB.out.alloc HB.out.size (.map #[] 0))
      have HM1 := hide (show MapIs (wo.alloc (.map #[] 0)) Try.prog 35 wo.heap.size (total (S.take 0)) (total (S.take 0)) (fun _ => none) from MapIs.made wo Try.prog 35)
      have HAP := hide (show p < wo.heap.size ∧ q < wo.heap.size ∧ o < wo.heap.size ∧ l' < wo.heap.size ∧ w.heap.size ≤ wo.heap.size from ⟨HX.out.lt.1, HX.out.lt.2.1, HX.out.lt.2.2.1, HX.out.lt.2.2.2, HB.out.size⟩)
      clear HX HB
      go_wp2_with fail
      generalize wo.alloc (.map #[] 0) = wz at *
      generalize wo.heap.size = bm at *
      as_aux_lemma =>
        go_loopw [83] (fun i W => ∃ (k : Nat) (f : Lit → Option Value), k ≤ 20 ∧ i = .int .i64 k ∧ SeenK S k f ∧ WhereAt W p q o l' 6 5 S ∧ MapIs W Try.prog 35 bm (total (S.take k)) (total (S.take k)) f ∧ Below w.heap.size w W) (fun i _ => 20 - (intOf i).toNat)
        case atStart => exact ⟨0, _, by omega, rfl, seen_none S, HX1.out, HM1.out, HB1.out⟩
        case round =>
          clear HX1 HM1 HB1
          obtain ⟨k2, f, hk2, rfl, hSK, hX, hM, hB⟩ := hrel
          have HX := hide hX
          have HM := hide hM
          have HB := hide hB
          have HSK := hide hSK
          clear hX hM hB hSK
          by_cases hlt2 : k2 < 20
          · have HTT := hide (total_take (S := S) (k := k2) (by rw [HSL.out]; exact hlt2))
            cases hs : S.getD k2 none with
            | none =>
              have HS := hide hs
              clear hs
              go_wp2_with fail
              refine (at_none HX.out k2 (by rw [HSL.out]; exact hlt2) HS.out).mono ?_
              rintro e w7 ⟨rfl, hb⟩
              have HX7 := hide ((HX.out.below hb).below ((Below.refl _ _).alloc (Nat.le_refl _) (.cells #[.int .i64 0, .int .i64 0] 35)))
              have HM7 := hide ((HM.out.below hb).below ((Below.refl _ _).alloc (Nat.le_refl _) (.cells #[.int .i64 0, .int .i64 0] 35)))
              have HB7 := hide ((HB.out.trans (hb.mono HB.out.size)).alloc (Nat.le_trans HB.out.size hb.size) (.cells #[.int .i64 0, .int .i64 0] 35))
              clear hb HX HM HB
              go_wp2_with fail
              go_roundw
              case rel => exact ⟨k2 + 1, f, by omega, by go_num, seen_skip HSK.out HS.out, HX7.out, by rw [HTT.out, HS.out]; exact HM7.out, HB7.out⟩
              case measure => simp [intOf]; omega
            | some y =>
              obtain ⟨y1, y2⟩ := y
              have HS := hide hs
              clear hs
              have HI := hide (show I64 y1 ∧ I64 y2 from by have := HX.out.ok k2 y1 y2 (getD_some HS.out); exact ⟨⟨by omega, by omega⟩, ⟨by omega, by omega⟩⟩)
              have HFR := hide (seen_free HSK.out HX.out.inj HS.out HI.out.1 HI.out.2)
              have HOW := hide (show ownZ S y1 y2 = (k2 : Int) by unfold ownZ; rw [owner_is HX.out.inj (getD_some HS.out)])
              go_wp2_with fail
              refine (at_some HX.out k2 (by rw [HSL.out]; exact hlt2) y1 y2 HS.out).mono ?_
              rintro e w7 ⟨rfl, hb⟩
              have HX7 := hide ((HX.out.below hb).below ((Below.refl _ _).alloc (Nat.le_refl _) (.cells #[.int .i64 y1, .int .i64 y2] 35)))
              have HM7 := hide ((HM.out.below hb).below ((Below.refl _ _).alloc (Nat.le_refl _) (.cells #[.int .i64 y1, .int .i64 y2] 35)))
              have HB7 := hide ((HB.out.trans (hb.mono HB.out.size)).alloc (Nat.le_trans HB.out.size hb.size) (.cells #[.int .i64 y1, .int .i64 y2] 35))
              have HN7 := hide (heap_new w7 (.cells #[.int .i64 y1, .int .i64 y2] 35))
              have HL7 := hide (show bm ≠ w7.heap.size ∧ p ≠ w7.heap.size from ⟨by have := HM.out.lt; have := hb.size; omega, by have := HX.out.lt.1; have := hb.size; omega⟩)
              have hlk := HM7.out.look KeyedP Try.underlying55 (zero_boolP _) (key_place HI.out.1 HI.out.2) (isKey_pk y1 y2)
              rw [HFR.out] at hlk
              rw [show plc y1 y2 = .agg #[.int .i64 y1, .int .i64 y2] from rfl] at hlk
              simp only [Option.getD_none] at hlk
              clear hb HX HM HB
              go_wp2_with fail
              clear hlk
              refine (owner_any HX7.out y1 y2 HI.out.1 HI.out.2).mono ?_
              rintro e w8 ⟨rfl, hb⟩
              rw [HOW.out]
              have HX8 := hide (HX7.out.below hb)
              have HM8 := hide (HM7.out.below hb)
              have HB8 := hide (HB7.out.trans (hb.mono HB7.out.size))
              have HN8 := hide ((hb.block _ (heap_lt HN7.out)).trans HN7.out)
              generalize w7.heap.size = Bw at *
              have c0 : w8.cell? ⟨Bw, 0, none⟩ = some (.int .i64 y1) := by rw [cell_of_block HN8.out]; rfl
              have c1 : w8.cell? ⟨Bw, 1, none⟩ = some (.int .i64 y2) := by rw [cell_of_block HN8.out]; rfl
              clear hb HX7 HM7 HB7 HN7
              have HSZ := hide (show total (S.take k2) < maxLen from by have := total_le (S.take k2); have h2 : (S.take k2).length ≤ 20 := (by rw [List.length_take, HSL.out]; omega); unfold maxLen; omega)
              go_wp2_with (at_mapUpdate; refine wpList_mapStore _ rfl _ _ _ 55 rfl 35 4 KeyedP Try.underlying55 bm _ _ f rfl HM8.out HSZ.out _ (.bool true) (pk y1 y2) rfl rfl (key_place HI.out.1 HI.out.2) (isKey_pk _ _) ?_; intro w9 hm9 hg9; have HM9 := hide hm9.tight; have HO9 := hide (only_of_grown hg9); clear hm9 hg9)
              have HX9 := hide (HX8.out.kept (HO9.out.block _ HX8.out.lt.1 (by have := HAP.out; omega)) (HO9.out.block _ HX8.out.lt.2.1 (by have := HAP.out; omega)) (HO9.out.block _ HX8.out.lt.2.2.1 (by have := HAP.out; omega)) (HO9.out.block _ HX8.out.lt.2.2.2 (by have := HAP.out; omega)))
              have HB9 := hide (HO9.out.below HB8.out HAP.out.2.2.2.2 HB8.out.size)
              go_roundw
              case rel => exact ⟨k2 + 1, _, by omega, by go_num, seen_put HSK.out HS.out HI.out.1 HI.out.2, HX9.out, by have := HM9.out; rw [HFR.out] at this; rw [HTT.out, HS.out]; exact this, HB9.out⟩
              case measure => simp [intOf]; omega
          · obtain rfl : k2 = 20 := by omega
            rw [show ((20 : Nat) : Int) = 20 from rfl]
            have HTK := hide (show S.take 20 = S by rw [← HSL.out]; exact List.take_length)
            rw [HTK.out] at HM
            clear hlt2 hk2
            obtain ⟨wo2, rfl⟩ : ∃ wo2 : World, wo2 = wr := ⟨_, rfl⟩
            go_wp2_with fail
            go_loopw [11, 106] (fun s i W => ∃ k : Nat, k ≤ 5 ∧ i = .int .i64 k ∧ s = .int .i64 (sumL S k : Nat) ∧ WhereAt W p q o l' 6 5 S ∧ MapIs W Try.prog 35 bm (total S) (total S) f ∧ Below w.heap.size w W) (fun s i _ => 5 - (intOf i).toNat)
            case atStart => exact ⟨0, by omega, rfl, rfl, HX.out, HM.out, HB.out⟩
            case round =>
              clear HX HM HB
              obtain ⟨k3, hk3, rfl, rfl, hX, hM, hB⟩ := hrel
              have HX := hide hX
              have HM := hide hM
              have HB := hide hB
              clear hX hM hB
              by_cases hlt3 : k3 < 5
              · have hsl := sumL_le S k3
                have hll := Nat.le_trans (live_le S (k3 : Int)) (total_le S)
                rw [HSL.out] at hsl hll
                have HNX := hide (sumL_next S k3)
                have HLV := hide (live_yes HX.out k3 (by omega))
                have h100 : k3 * 20 ≤ 100 := by omega
                have hs0 : ((sumL S k3 : Nat) : Int) ≤ 100 := by omega
                clear h100
                have hl0 : ((liveN S (k3 : Int) : Nat) : Int) ≤ 20 := by omega
                have hs1 : (0 : Int) ≤ ((sumL S k3 : Nat) : Int) := by omega
                have hl1 : (0 : Int) ≤ ((liveN S (k3 : Int) : Nat) : Int) := by omega
                have HEQ := hide (show ((sumL S (k3 + 1) : Nat) : Int) = ((sumL S k3 : Nat) : Int) + ((liveN S (k3 : Int) : Nat) : Int) by rw [HNX.out]; rfl)
                clear hsl hll HNX
                generalize ((sumL S k3 : Nat) : Int) = sv at *
                generalize ((liveN S (k3 : Int) : Nat) : Int) = lv at *
                go_wp2_with fail
                refine HLV.out.mono ?_
                rintro e w9 ⟨rfl, rfl⟩
                go_wp2
                go_roundw
                case rel => exact ⟨k3 + 1, by omega, by go_num, by rw [HEQ.out], HX.out, HM.out, HB.out⟩
                case measure => simp [intOf]; omega
              · obtain rfl : k3 = 5 := by omega
                have HSUM := hide (sumL_five S (fun x hx b p e => by
                  obtain ⟨i, hi, he⟩ := List.getElem_of_mem hx
                  have := HX.out.ok i b p (by rw [List.getElem?_eq_getElem hi, he, e])
                  omega))
                rw [HSUM.out]
                go_wp2_with fail
                refine (total_any HX.out).mono ?_
                rintro e w9 ⟨rfl, rfl⟩
                have HMX := hide HM.out
                generalize total S = t at *
                go_wp2_with (at_len; refine wpList_mapLen_g _ (by rfl) _ 55 rfl 35 4 Try.underlying55 bm t t f rfl HMX.out ?_)
                go_ret
                exact ⟨rfl, HB.out⟩
theorem whereAgrees_walk (v : Value) (w : World) (hv : ∃ zs : List Int, NumsAt w .u16 v zs ∧ (∀ z ∈ zs, (Lit.int .u16 z).wf = true) ∧ zs.length ≤ maxLen) :
    Calls Try.prog 5 #[v] w fun e w' => e = .returned (.bool true) ∧ Below w.heap.size w w' := by
  obtain ⟨zs, hz, hw, hm⟩ := hv
  obtain ⟨a, cap, rfl, hc, hat⟩ := nums_at hz
  unfold maxLen at hm
  by_cases h1 : zs.length ≤ 100
  · exact whereAgrees_few zs hw a cap hc (by omega) w hat h1
  · exact whereAgrees_big zs hw a cap hc (by omega) w hat (by omega)

set_option maxRecDepth 100000 in
theorem whereAgrees_lifted (os : Os) (started : os.Started) (H : Type) (enc : TypeId × Value → H) :
    ReturnsInHanded {} Try.checked os 5 .any (Rows.whereAgreesSpec.pre6 enc Try.prog Try.f5 Rows.whereAgreesRow.domain false) (Rows.whereAgreesSpec.post enc Try.prog Try.f5 false true false false) := by
  refine returnsInHanded_of_change (C := Try.checked) own started (by kernel_rfl) Try.func5
    (ChangeSpec.witness6 (enc := enc) (C := Try.checked) false ⟨#[], #[.slice none 0 0], []⟩ 8 (by kernel_rfl) (by kernel_rfl) (by kernel_rfl) (by kernel_rfl)) ?_
  intro W base args ds gs before hval0 hW _ _
  have hval : ∀ (j : Nat) t v, Try.f5.params[j]? = some t → args[j]? = some v → Value.okWide Try.prog W .any base t v := hval0
  have hW' := hW
  obtain ⟨p, q, hA0, hV, rfl, hfz, hnd⟩ := hW
  have hA : DataW.TrodAll enc Try.prog W 0 (fun _ => true) true Try.f5.params.toList args.toList ds p := hA0
  rw [Try.params5] at hA hval
  obtain ⟨v0, vs0, d0, ds0, p0, q0, hargs, rfl, rfl, h0, r0⟩ := trodAll_cons hA
  obtain ⟨rfl, rfl, rfl⟩ := trodAll_nil r0
  obtain rfl : args = #[v0] := by cases args; simp_all
  obtain ⟨rfl, rfl⟩ := trodVars_none hV
  have z0 := open_nums_slice Try.underlying53 Try.underlying54 (by kernel_rfl) (hval 0 53 v0 rfl rfl) h0
  clear hA0 hval0
  refine (whereAgrees_walk v0 W z0).mono fun e W' ⟨he, hb⟩ => ?_
  subst he
  exact ⟨_, rfl, post_law laidOut (of_decide_eq_true (by kernel_rfl)) rfl rfl Try.underlying4 hW' ⟨rfl, rfl, rfl⟩ hb⟩

/-- THE STATEMENT -/
theorem whereAgrees_holds : Rows.WhereAgreesSaid :=
  OpenClaim.holds_of_wide 5 Try.f5 rfl rfl rfl rfl rfl rfl rfl ⟨rfl, rfl, rfl, rfl, rfl⟩ rfl rfl rfl rfl rfl (by kernel_rfl) Try.func5 (by kernel_rfl)
    (of_decide_eq_true (by kernel_rfl)) (by unfold Func.isWrapper; first | (rw [if_pos (by decide +kernel)]; kernel_rfl) | (rw [if_neg (by decide +kernel)]; exact ⟨rfl, rfl⟩))
    (fun os started H enc _ => whereAgrees_lifted os started H enc)

end Go.Proofs.Ytfkilcpnjnmnmaa
