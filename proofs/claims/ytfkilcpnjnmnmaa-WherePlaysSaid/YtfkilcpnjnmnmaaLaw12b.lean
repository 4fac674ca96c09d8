/-
  Layer 12: WhereBack.
-/
import Derived.Test.YtfkilcpnjnmnmaaLaw12
import Derived.IntWalk
import Derived.Deep.WholeRow
namespace Go.Proofs.Ytfkilcpnjnmnmaa
set_option linter.unusedSimpArgs false
set_option linter.unusedVariables false
open Go.RowKit Go.WideShapes Go.ChangeShapes Go.ChangeAt Go.Maps W

/-- a list of numbers that came in, at whatever address -/
theorem nums_at {w : World} {k : IntKind} {v : Value} {zs : List Int} (h : NumsAt w k v zs) : ∃ (a : Option Addr) (cap : Nat), v = .slice a zs.length cap ∧ zs.length ≤ cap ∧ ∀ i, i < zs.length → ∃ b off, a = some ⟨b, off, none⟩ ∧ b < w.heap.size ∧ w.cell? ⟨b, off + i, none⟩ = some (.int k (zs.getD i 0)) := by
  rcases h with ⟨rfl, rfl⟩ | ⟨b, off, cap, rfl, hc, hm, hp, hi⟩ | ⟨a, cap, rfl, rfl⟩
  · exact ⟨none, 0, rfl, Nat.le_refl _, fun i hi => by simp at hi⟩
  · exact ⟨some ⟨b, off, none⟩, cap, rfl, hc, fun i hil => ⟨b, off, rfl, World.block_lt_of_cell? w _ (hi i hil), hi i hil⟩⟩
  · exact ⟨some a, cap, rfl, Nat.zero_le _, fun i hi => by simp at hi⟩
theorem wf_getD {zs : List Int} {q : IntKind} (h : ∀ z ∈ zs, (Lit.int q z).wf = true) (k : Nat) (hk : k < zs.length) : (Lit.int q (zs.getD k 0)).wf = true :=
  h _ (by simp only [List.getD, List.getElem?_eq_getElem hk, Option.getD_some]; exact List.getElem_mem _)
theorem emod_le_self (a m : Int) (h : 0 ≤ a) (hm : 0 < m) : a % m ≤ a := by
  have h1 := Int.mul_ediv_add_emod a m
  have h2 : 0 ≤ m * (a / m) := Int.mul_nonneg (by omega) (Int.ediv_nonneg h (by omega))
  omega
theorem u16_quo (x d m : Int) (h0 : 0 ≤ x) (h1 : x ≤ 65535) (hd : 0 < d) (hm : 0 < m) : wrap64 ((IntKind.u16.wrap (x.tdiv d)).tmod m) = x / d % m := by
  have e : x.tdiv d = x / d := Int.tdiv_eq_ediv_of_nonneg h0
  have b0 : 0 ≤ x / d := Int.ediv_nonneg h0 (by omega)
  have b1 : x / d ≤ x := Int.ediv_le_self d h0
  rw [e, IntWalk.u16_in _ ⟨b0, by omega⟩, IntWalk.rem_in _ _ b0]
  have c0 := Int.emod_nonneg (x / d) (show m ≠ 0 by omega)
  have c1 : x / d % m ≤ x / d := emod_le_self _ _ b0 hm
  exact IntWalk.wrap64_in _ (by omega)
theorem u8_quo (x d m : Int) (h0 : 0 ≤ x) (h1 : x ≤ 255) (hd : 0 < d) (hm : 0 < m) : wrap64 ((IntKind.u8.wrap (x.tdiv d)).tmod m) = x / d % m := by
  have e : x.tdiv d = x / d := Int.tdiv_eq_ediv_of_nonneg h0
  have b0 : 0 ≤ x / d := Int.ediv_nonneg h0 (by omega)
  have b1 : x / d ≤ x := Int.ediv_le_self d h0
  rw [e, IntWalk.u8_in _ ⟨b0, by omega⟩, IntWalk.rem_in _ _ b0]
  have c0 := Int.emod_nonneg (x / d) (show m ≠ 0 by omega)
  have c1 : x / d % m ≤ x / d := emod_le_self _ _ b0 hm
  exact IntWalk.wrap64_in _ (by omega)
/-- where a logical page is told to be -/
def plZ (x : Option (Int × Int)) : Int × Int := x.getD (0, 0)
section
variable {w : World} {p q o l : Nat} {pg : Int} {nb : Nat} {S : Spots}
theorem put_int (h : WhereAt w p q o l pg nb S) (i b n : Int) (i0 : 0 ≤ i) (hi : i < S.length) (b0 : 0 ≤ b) (hb : b < nb) (n0 : 0 ≤ n) (hn : n < pg) :
    Calls Try.prog 10 #[.pointer (some ⟨p, 0, none⟩), .int .i64 i, .agg #[.int .i64 b, .int .i64 n]] w fun e w' => e = .returned (.int .i64 (putE S i.toNat (b, n))) ∧ WhereAt w' p q o l pg nb (putS S i.toNat (b, n)) ∧ OnlyL [q, o, l] w w' := by
  obtain ⟨i', rfl⟩ := Int.eq_ofNat_of_zero_le i0
  obtain ⟨b', rfl⟩ := Int.eq_ofNat_of_zero_le b0
  obtain ⟨n', rfl⟩ := Int.eq_ofNat_of_zero_le n0
  rw [Int.toNat_natCast]
  exact put_any h i' b' n' (by omega) (by omega) hn
theorem drop_int (h : WhereAt w p q o l pg nb S) (i : Int) (i0 : 0 ≤ i) (hi : i < S.length) :
    Calls Try.prog 12 #[.pointer (some ⟨p, 0, none⟩), .int .i64 i] w fun e w' => e = .returned (.int .i64 0) ∧ WhereAt w' p q o l pg nb (S.set i.toNat none) ∧ OnlyL [q, o, l] w w' := by
  obtain ⟨i', rfl⟩ := Int.eq_ofNat_of_zero_le i0
  rw [Int.toNat_natCast]
  exact drop_any h i' (by omega)
theorem at_any (h : WhereAt w p q o l pg nb S) (i : Int) (i0 : 0 ≤ i) (hi : i < S.length) :
    Calls Try.prog 14 #[.pointer (some ⟨p, 0, none⟩), .int .i64 i] w fun e w' => e = .returned (.tuple #[.agg #[.int .i64 (plZ (S.getD i.toNat none)).1, .int .i64 (plZ (S.getD i.toNat none)).2], .bool (S.getD i.toNat none).isSome]) ∧ Below w.heap.size w w' := by
  obtain ⟨i', rfl⟩ := Int.eq_ofNat_of_zero_le i0
  rw [Int.toNat_natCast]
  cases hs : S.getD i' none with
  | none => exact at_none h i' (by omega) hs
  | some x => obtain ⟨b, n⟩ := x; exact at_some h i' (by omega) b n hs
theorem put_back {i : Nat} {x y : Int × Int} (hi : Inj S) (hl : i < S.length) (hx : putE S i x = 0) (hs : S.getD i none = some y) : putE (S.set i (some x)) i y = 0 ∧ (S.set i (some x)).set i (some y) = S := by
  have hfree : owner S x = none ∨ owner S x = some i := by
    unfold putE at hx
    cases h : owner S x with
    | none => exact .inl rfl
    | some j => rw [h] at hx; simp at hx; exact .inr (by rw [hx])
  have hy := getD_some hs
  refine ⟨?_, ?_⟩
  · unfold putE
    rw [owner_put hi hl hfree]
    by_cases e : y = x
    · rw [if_pos e]; simp
    · rw [if_neg e, if_pos hy]
  · rw [List.set_set]
    apply List.ext_getElem?
    intro j
    rw [List.getElem?_set]
    split
    · rename_i e; subst e; rw [hy]
    · rfl
theorem drop_back {i : Nat} {x : Int × Int} (hl : i < S.length) (hs : S.getD i none = none) : (S.set i (some x)).set i none = S := by
  rw [List.set_set]
  apply List.ext_getElem?
  intro j
  rw [List.getElem?_set]
  split
  · rename_i e; subst e; rw [List.getElem?_eq_getElem hl]; simp only [List.getD, List.getElem?_eq_getElem hl, Option.getD_some] at hs; rw [hs]
  · rfl
end
theorem set_next {S : Spots} {L : List (Int × Int)} {k : Nat} {z : Int × Int} (hl : L.length = 20) (h : ∀ j, j < k → L.getD j (0, 0) = plZ (S.getD j none)) (hk : k < 20) (hz : z = plZ (S.getD k none)) : ∀ j, j < k + 1 → (L.set k z).getD j (0, 0) = plZ (S.getD j none) := by
  intro j hj
  by_cases e : k = j
  · subst e; rw [← hz]; simp [List.getD, hl, hk]
  · have := h j (by omega)
    rw [← this]
    simp only [List.getD, List.getElem?_set_ne e]
/-- twenty places, all of zeros -/
def Z40 : Array Value := (flat2 (List.replicate 20 (0, 0))).toArray
theorem build_Z (w : World) : (Instr.build 57 #[]).run Try.prog w = .ok (.agg Z40) w := by kernel_rfl
theorem alloc_Z (w : World) : (Instr.alloc 57 true (.tuple #[])).run Try.prog w = .ok (.pointer (some ⟨w.heap.size, 0, none⟩)) (w.alloc (.cells Z40 57)) := by kernel_rfl
theorem store_Z (w : World) : (Instr.storeAt 57 (.pointer (some ⟨w.heap.size, 0, none⟩)) (.agg Z40)).run Try.prog (w.alloc (.cells Z40 57)) = .ok () (w.alloc (.cells Z40 57)) :=
  run_storeAt_new w 57 Z40 Z40 (by kernel_rfl) rfl (by kernel_rfl)
section
variable {P : Program} (w : World) {ops : Array Oper} {rest : List Oper} {o : Oper} {a : Act} {Q : Exit → Act → World → Prop}
theorem wpList_buildZ (hg : o.guard = none) (t : TypeId) (hop : o.op = Op.build t #[]) (v : Value) (hv : (Instr.build t #[]).run P w = .ok v w) (hK : wpList P ops Q rest (a.put o.dst v) w) : wpList P ops Q (o :: rest) a w := by
  refine wpList_plain hg fun K' hK' => ?_
  unfold Oper.wp
  simp [execOp, hop, hv, Result.andThen]
  exact hK' _ _ hK
theorem wpList_allocZ (hg : o.guard = none) (t : TypeId) (hop : o.op = Op.alloc t) (v : Value) (w' : World) (hv : (Instr.alloc t true (.tuple #[])).run P w = .ok v w') (hK : wpList P ops Q rest (a.put o.dst v) w') : wpList P ops Q (o :: rest) a w := by
  refine wpList_plain hg fun K' hK' => ?_
  unfold Oper.wp
  simp [execOp, hop, hv, Result.andThen]
  exact hK' _ _ hK
theorem wpList_storeZ (hg : o.guard = none) (t : TypeId) (x y : Operand) (hop : o.op = Op.store t x y) (u v : Value) (w' : World) (hx : a.eval x = u) (hy : a.eval y = v) (hv : (Instr.storeAt t u v).run P w = .ok () w') (hK : wpList P ops Q rest (a.put o.dst undef) w') : wpList P ops Q (o :: rest) a w := by
  refine wpList_plain hg fun K' hK' => ?_
  unfold Oper.wp
  simp [execOp, hop, hx, hy, hv, Result.andThen]
  exact hK' _ _ hK
end
theorem two_set {w : World} {B i : Nat} {L : List (Int × Int)} {T : TypeId} (h : w.heap[B]? = some (.cells (flat2 L).toArray T)) (hi : i < L.length) (x : Int × Int) :
    ((w.setCell ⟨B, i * 2, none⟩ (.int .i64 x.1)).setCell ⟨B, i * 2 + 1, none⟩ (.int .i64 x.2)).heap[B]? = some (.cells (flat2 (L.set i x)).toArray T) := by
  have h1 : (flat2 (L.set i x)) = ((flat2 L).set (i * 2) (.int .i64 x.1)).set (i * 2 + 1) (.int .i64 x.2) := by
    have hl : i < (L.set i (x.1, (L.getD i (0, 0)).2)).length := by simpa using hi
    rw [flat2_set_fst L i x.1 hi, flat2_set_snd _ i x.2 hl, List.set_set]
    congr 2
    simp [List.getD, hi]
  rw [block_setCell (block_setCell h _ _) _ _, h1]
  simp
set_option maxRecDepth 100000 in
set_option maxHeartbeats 400000 in
theorem whereBack_few (zs : List Int) (hzs : ∀ z ∈ zs, (Lit.int .u16 z).wf = true) (a : Option Addr) (cap : Nat) (hcap : zs.length ≤ cap) (hmaxl : zs.length ≤ 9223372036854775807) (kk : Int) (k0 : 0 ≤ kk) (k1 : kk ≤ 255) (ax : Int) (a0 : 0 ≤ ax) (a1 : ax ≤ 255) (w : World)
    (hat : ∀ i, i < zs.length → ∃ b off, a = some ⟨b, off, none⟩ ∧ b < w.heap.size ∧ w.cell? ⟨b, off + i, none⟩ = some (.int .u16 (zs.getD i 0))) (hbig : zs.length ≤ 40) :
    Calls Try.prog 6 #[.slice a zs.length cap, .int .u8 kk, .int .u8 ax] w fun e w' => e = .returned (.bool true) ∧ Below w.heap.size w w' := by
  have HZS := hide hzs
  have HAT := hide hat
  clear hzs hat
  go_enter Try.func6, Try.ntmps6
  go_wp2_with fail
  refine (newW_yes 5 6 20 (by omega) (by omega) (by omega) (by omega) (by omega) (by omega) _).mono ?_
  rintro e w1 ⟨p, q, o, l', rfl, hW, hb, gp, gq, go, gl⟩
  have HG := hide (show ∀ r ∈ [q, o, l'], w.heap.size ≤ r by simp; omega)
  have H1 := hide hW
  have B1 := hide hb
  clear hW hb gp gq go gl
  go_wp2_with fail
  refine (wakes12 _).mono ?_
  rintro e w2 ⟨rfl, hb⟩
  have H2 := hide (H1.out.below hb)
  have B2 := hide (B1.out.trans (hb.mono B1.out.size))
  clear hb H1 B1
  go_wp2_with fail
  go_loopw [40] (fun i W => ∃ (k : Nat) (S : Spots), k ≤ zs.length ∧ i = .int .i64 k ∧ S.length = 20 ∧ WhereAt W p q o l' 6 5 S ∧ Below w.heap.size w W) (fun i _ => zs.length - (intOf i).toNat)
  case atStart => exact ⟨0, _, by omega, rfl, List.length_replicate, H2.out, B2.out⟩
  case round =>
    clear H2 B2
    obtain ⟨k, S, hk, rfl, hSL, hX, hB⟩ := hrel
    have HX := hide hX
    have HB := hide hB
    have HSL := hide hSL
    by_cases hlt : k < zs.length
    · obtain ⟨b, off, rfl, hb, c0⟩ := HAT.out k (by omega)
      have d0 : wr.cell? ⟨b, off + k, none⟩ = some (.int .u16 (zs.getD k 0)) := (hB.cell (p := ⟨b, off + k, none⟩) hb).trans c0
      obtain ⟨x0, x1⟩ := wf_u16 (wf_getD HZS.out k (by omega))
      generalize zs.getD k 0 = x at *
      have hbw : b < wr.heap.size := Nat.lt_of_lt_of_le hb hB.size
      clear hX hB hSL hb c0
      as_aux_lemma =>
        go_wp2_with fail
        rw [u16_quo x 20 5 x0 x1 (by omega) (by omega), u16_quo x 100 6 x0 x1 (by omega) (by omega)]
        refine (put_int HX.out (x % 20) (x / 20 % 5) (x / 100 % 6) (by omega) (by rw [HSL.out]; omega) (by omega) (by omega) (by omega) (by omega)).mono ?_
        rintro e w5 ⟨rfl, hx5, ho5⟩
        have HX5 := hide hx5
        have HB5 := hide (ho5.below HB.out HG.out HB.out.size)
        have HS5 := hide ((putS_len S (x % 20).toNat (x / 20 % 5, x / 100 % 6)).trans HSL.out)
        clear hx5 ho5 d0
        go_wp2_with fail
        go_roundw
        case rel => exact ⟨k + 1, _, by omega, by go_num, HS5.out, HX5.out, HB5.out⟩
        case measure => simp [intOf]; omega
    · obtain rfl : k = zs.length := by omega
      clear hX hB hSL
      obtain ⟨wo, rfl⟩ : ∃ wo : World, wo = wr := ⟨_, rfl⟩
      as_aux_lemma =>
        have HGP := hide HX.out.lt
        go_wp2_with (first | (refine wpList_buildZ _ rfl 57 rfl _ (build_Z _) ?_) | (refine wpList_allocZ _ rfl 57 rfl _ _ (alloc_Z _) ?_) | (refine wpList_storeZ _ rfl 57 _ _ rfl _ _ _ rfl rfl (store_Z _) ?_))
        have HK1 := hide (show (wo.alloc (.cells Z40 57)).heap[wo.heap.size]? = some (.cells (flat2 (List.replicate 20 (0, 0))).toArray 57) from heap_new _ _)
        have HX1 := hide (HX.out.below ((Below.refl _ _).alloc (Nat.le_refl _) (.cells Z40 57)))
        have HB1 := hide (HB.out.alloc HB.out.size (.cells Z40 57))
        have HBB := hide HB.out.size
        generalize wo.alloc (.cells Z40 57) = wz at *
        generalize wo.heap.size = B at *
        clear HX HB
        as_aux_lemma =>
          go_loopw [60] (fun i W => ∃ (k : Nat) (L : List (Int × Int)), k ≤ 20 ∧ i = .int .i64 k ∧ L.length = 20 ∧ W.heap[B]? = some (.cells (flat2 L).toArray 57) ∧ (∀ j, j < k → L.getD j (0, 0) = plZ (S.getD j none)) ∧ WhereAt W p q o l' 6 5 S ∧ Below w.heap.size w W) (fun i _ => 20 - (intOf i).toNat)
          case atStart => exact ⟨0, _, by omega, rfl, List.length_replicate, HK1.out, fun j hj => by omega, HX1.out, HB1.out⟩
          case round =>
            clear HX1 HB1 HK1
            obtain ⟨k2, L, hk2, rfl, hLL, hK, hLS, hX, hB⟩ := hrel
            have HX := hide hX
            have HB := hide hB
            have HK := hide hK
            have HLL := hide hLL
            have HLS := hide hLS
            clear hX hB hK hLL hLS
            by_cases hlt2 : k2 < 20
            · have HA := hide (at_any HX.out (k2 : Int) (by omega) (by rw [HSL.out]; omega))
              rw [Int.toNat_natCast] at HA
              have HZ := hide (show plZ (S.getD k2 none) = plZ (S.getD k2 none) from rfl)
              generalize (S.getD k2 none).isSome = si at *
              obtain ⟨z, hz⟩ : ∃ z, z = plZ (S.getD k2 none) := ⟨_, rfl⟩
              rw [← hz] at HA
              have HZE := hide hz
              clear hz HZ
              go_wp2_with fail
              refine HA.out.mono ?_
              rintro e w5 ⟨rfl, hb⟩
              have HX5 := hide (HX.out.below hb)
              have HB5 := hide (HB.out.trans (hb.mono HB.out.size))
              have hk5 := (hb.block B (heap_lt HK.out)).trans HK.out
              have HK5 := hide hk5
              have d0 : w5.cell? ⟨B, k2 * 2, none⟩ = some (.int .i64 (L.getD k2 (0, 0)).1) := by rw [cell_of_block hk5]; simpa using flat2_fst L k2 (by rw [HLL.out]; exact hlt2)
              have d1 : w5.cell? ⟨B, k2 * 2 + 1, none⟩ = some (.int .i64 (L.getD k2 (0, 0)).2) := by rw [cell_of_block hk5]; simpa using flat2_snd L k2 (by rw [HLL.out]; exact hlt2)
              have f0 : w5.frozen? ⟨B, k2 * 2, none⟩ = false := frozen_of_block hk5 _
              have f1 : w5.frozen? ⟨B, k2 * 2 + 1, none⟩ = false := frozen_of_block hk5 _
              clear hb hk5 HX HB HK HA
              go_wp2_with fail
              go_roundw
              case rel => exact ⟨k2 + 1, L.set k2 z, by omega, by go_num, by rw [List.length_set]; exact HLL.out, two_set HK5.out (by rw [HLL.out]; exact hlt2) z, set_next HLL.out HLS.out hlt2 HZE.out, (HX5.out.onlyL (((OnlyL.setCell (qs := [B]) (by simp) _ _).trans (OnlyL.setCell (by simp) _ _))) (by have := HGP.out; have := HBB.out; simp; omega) (by have := HGP.out; simp; omega) (by have := HGP.out; simp; omega) (by have := HGP.out; simp; omega)), (HB5.out.setCell HBB.out _).setCell HBB.out _⟩
              case measure => simp [intOf]; omega
            · obtain rfl : k2 = 20 := by omega
              obtain ⟨wo2, rfl⟩ : ∃ wo2 : World, wo2 = wr := ⟨_, rfl⟩
              obtain ⟨n, hn⟩ := Int.eq_ofNat_of_zero_le (show 0 ≤ kk % 20 by omega)
              have hn20 : n < 20 := by omega
              have HNN := hide hn
              clear hn hlt hlt2 hk hk2 HZS HAT
              go_wp2_with fail
              refine (total_any HX.out).mono ?_
              rintro e w6 ⟨rfl, rfl⟩
              go_wp2_with fail
              rw [HNN.out]
              cases hs : S.getD n none with
              | none =>
                have HS := hide hs
                clear hs
                refine (at_none HX.out n (by rw [HSL.out]; exact hn20) HS.out).mono ?_
                rintro e w7 ⟨rfl, hb⟩
                have HX7 := hide ((HX.out.below hb).below ((Below.refl _ _).alloc (Nat.le_refl _) (.cells #[.int .i64 0, .int .i64 0] 35)))
                have HB7 := hide ((HB.out.trans (hb.mono HB.out.size)).alloc (Nat.le_trans HB.out.size hb.size) (.cells #[.int .i64 0, .int .i64 0] 35))
                have HK7 := hide (((heap_old w7 (.cells #[.int .i64 0, .int .i64 0] 35) B (Nat.lt_of_lt_of_le (heap_lt HK.out) hb.size)).trans (hb.block B (heap_lt HK.out))).trans HK.out)
                have HN7 := hide (heap_new w7 (.cells #[.int .i64 0, .int .i64 0] 35))
                have HL7 := hide (show q < w7.heap.size ∧ o < w7.heap.size ∧ l' < w7.heap.size from ⟨Nat.lt_of_lt_of_le HX.out.lt.2.1 hb.size, Nat.lt_of_lt_of_le HX.out.lt.2.2.1 hb.size, Nat.lt_of_lt_of_le HX.out.lt.2.2.2 hb.size⟩)
                clear hb HX HB HK
                go_wp2_with fail
                generalize w7.alloc (.cells #[.int .i64 0, .int .i64 0] 35) = wb at *
                generalize w7.heap.size = Bw at *
                have HPU := put_int HX7.out (n : Int) (ax % 5) (ax / 5 % 6) (by omega) (by rw [HSL.out]; omega) (by omega) (by omega) (by omega) (by omega)
                rw [Int.toNat_natCast] at HPU
                have HP := hide HPU
                clear HPU
                generalize ax % 5 = u1 at *
                generalize ax / 5 % 6 = u2 at *
                by_cases hE : putE S n (u1, u2) = 0
                · have HP2 := HP.out
                  unfold putS at HP2
                  rw [hE, if_pos rfl] at HP2
                  have HP3 := hide HP2
                  have HD := hide (drop_back (S := S) (x := (u1, u2)) (by rw [HSL.out]; exact hn20) HS.out)
                  have HSX := hide (show (S.set n (some (u1, u2))).length = 20 by rw [List.length_set]; exact HSL.out)
                  clear HP2 HP hE
                  generalize S.set n (some (u1, u2)) = S1 at *
                  refine HP3.out.mono ?_
                  rintro e w8 ⟨rfl, hx, hoo⟩
                  have HX8 := hide hx
                  have HB8 := hide (hoo.below HB7.out HG.out HB7.out.size)
                  have HK8 := hide ((hoo.block B (heap_lt HK7.out) (by have := HGP.out; simp; omega)).trans HK7.out)
                  clear hx hoo HX7 HB7 HK7 HN7 HP3
                  go_wp2_with fail
                  have HDR := drop_int HX8.out (n : Int) (by omega) (by rw [HSX.out]; omega)
                  rw [Int.toNat_natCast, HD.out] at HDR
                  have HDR2 := hide HDR
                  clear HDR
                  refine HDR2.out.mono ?_
                  rintro e w9 ⟨rfl, hx, hoo⟩
                  have HX9 := hide hx
                  have HB9 := hide (hoo.below HB8.out HG.out HB8.out.size)
                  have HK9 := hide ((hoo.block B (heap_lt HK8.out) (by have := HGP.out; simp; omega)).trans HK8.out)
                  clear hx hoo HX8 HB8 HK8 HDR2
                  have HX := HX9
                  have HB := HB9
                  have HK := HK9
                  clear HX9 HB9 HK9
                  go_wp2_with fail
                  go_loopw [103] (fun i W => ∃ k : Nat, k ≤ 20 ∧ i = .int .i64 k ∧ WhereAt W p q o l' 6 5 S ∧ W.heap[B]? = some (.cells (flat2 L).toArray 57) ∧ Below w.heap.size w W) (fun i _ => 20 - (intOf i).toNat)
                  case atStart => exact ⟨0, by omega, rfl, HX.out, HK.out, HB.out⟩
                  case round =>
                    clear HX HK HB
                    obtain ⟨k3, hk3, rfl, hX, hK, hB⟩ := hrel
                    have HX := hide hX
                    have HK := hide hK
                    have HB := hide hB
                    clear hX hK hB
                    by_cases hlt3 : k3 < 20
                    · have HP := hide (HLS.out k3 hlt3)
                      have HA := hide (at_any HX.out (k3 : Int) (by omega) (by rw [HSL.out]; omega))
                      rw [Int.toNat_natCast] at HA
                      have HF1 := hide (flat2_fst L k3 (by rw [HLL.out]; exact hlt3))
                      have HF2 := hide (flat2_snd L k3 (by rw [HLL.out]; exact hlt3))
                      rw [HP.out] at HF1 HF2
                      generalize (S.getD k3 none).isSome = si at *
                      generalize plZ (S.getD k3 none) = z at *
                      obtain ⟨z1, z2⟩ := z
                      simp only at HA HF1 HF2
                      go_wp2_with fail
                      refine HA.out.mono ?_
                      rintro e w9 ⟨rfl, hb⟩
                      have HX9 := hide ((HX.out.below hb).below ((Below.refl _ _).alloc (Nat.le_refl _) (.cells #[.int .i64 z1, .int .i64 z2] 35)))
                      have HB9 := hide ((HB.out.trans (hb.mono HB.out.size)).alloc (Nat.le_trans HB.out.size hb.size) (.cells #[.int .i64 z1, .int .i64 z2] 35))
                      have HK9 := hide (((heap_old w9 (.cells #[.int .i64 z1, .int .i64 z2] 35) B (Nat.lt_of_lt_of_le (heap_lt HK.out) hb.size)).trans (hb.block B (heap_lt HK.out))).trans HK.out)
                      have HN9 := hide (heap_new w9 (.cells #[.int .i64 z1, .int .i64 z2] 35))
                      clear hb HX HB HK HA HP
                      go_wp2_with fail
                      generalize w9.alloc (.cells #[.int .i64 z1, .int .i64 z2] 35) = wb at *
                      generalize w9.heap.size = Bw at *
                      have c0 : wb.cell? ⟨Bw, 0, none⟩ = some (.int .i64 z1) := by rw [cell_of_block HN9.out]; rfl
                      have c1 : wb.cell? ⟨Bw, 1, none⟩ = some (.int .i64 z2) := by rw [cell_of_block HN9.out]; rfl
                      have d0 : wb.cell? ⟨B, k3 * 2, none⟩ = some (.int .i64 z1) := by rw [cell_of_block HK9.out]; simpa using HF1.out
                      have d1 : wb.cell? ⟨B, k3 * 2 + 1, none⟩ = some (.int .i64 z2) := by rw [cell_of_block HK9.out]; simpa using HF2.out
                      have hneq : ∀ W, (binOp .neq 35 (.agg #[.int .i64 z1, .int .i64 z2]) (.agg #[.int .i64 z1, .int .i64 z2])).run Try.prog W = .ok (.bool false) W := fun W => by rw [neq_place]; simp
                      have hgu := guard_place .neq
                      go_quiet (fail)
                      go_wp2
                      go_roundw
                      case rel => exact ⟨k3 + 1, by omega, by go_num, HX9.out.drewN _, HK9.out, HB9.out.drewN _⟩
                      case measure => simp [intOf]; omega
                    · obtain rfl : k3 = 20 := by omega
                      have HT := hide (total_any HX.out)
                      generalize total S = t at *
                      go_wp2_with fail
                      refine HT.out.mono ?_
                      rintro e w9 ⟨rfl, rfl⟩
                      go_wp2
                      go_ret
                      exact ⟨rfl, HB.out⟩
                · have HP2 := HP.out
                  unfold putS at HP2
                  rw [if_neg hE] at HP2
                  have hE0 : (putE S n (u1, u2) == 0) = false := by simpa using hE
                  have HP3 := hide HP2
                  clear HP2 HP
                  generalize putE S n (u1, u2) = E at *
                  clear hE
                  refine HP3.out.mono ?_
                  rintro e w8 ⟨rfl, hx, hoo⟩
                  have HX8 := hide hx
                  have HB8 := hide (hoo.below HB7.out HG.out HB7.out.size)
                  have HK8 := hide ((hoo.block B (heap_lt HK7.out) (by have := HGP.out; simp; omega)).trans HK7.out)
                  clear hx hoo HX7 HB7 HK7 HN7 HP3
                  have HX := HX8
                  have HB := HB8
                  have HK := HK8
                  clear HX8 HB8 HK8
                  go_wp2_with fail
                  go_loopw [103] (fun i W => ∃ k : Nat, k ≤ 20 ∧ i = .int .i64 k ∧ WhereAt W p q o l' 6 5 S ∧ W.heap[B]? = some (.cells (flat2 L).toArray 57) ∧ Below w.heap.size w W) (fun i _ => 20 - (intOf i).toNat)
                  case atStart => exact ⟨0, by omega, rfl, HX.out, HK.out, HB.out⟩
                  case round =>
                    clear HX HK HB
                    obtain ⟨k3, hk3, rfl, hX, hK, hB⟩ := hrel
                    have HX := hide hX
                    have HK := hide hK
                    have HB := hide hB
                    clear hX hK hB
                    by_cases hlt3 : k3 < 20
                    · have HP := hide (HLS.out k3 hlt3)
                      have HA := hide (at_any HX.out (k3 : Int) (by omega) (by rw [HSL.out]; omega))
                      rw [Int.toNat_natCast] at HA
                      have HF1 := hide (flat2_fst L k3 (by rw [HLL.out]; exact hlt3))
                      have HF2 := hide (flat2_snd L k3 (by rw [HLL.out]; exact hlt3))
                      rw [HP.out] at HF1 HF2
                      generalize (S.getD k3 none).isSome = si at *
                      generalize plZ (S.getD k3 none) = z at *
                      obtain ⟨z1, z2⟩ := z
                      simp only at HA HF1 HF2
                      go_wp2_with fail
                      refine HA.out.mono ?_
                      rintro e w9 ⟨rfl, hb⟩
                      have HX9 := hide ((HX.out.below hb).below ((Below.refl _ _).alloc (Nat.le_refl _) (.cells #[.int .i64 z1, .int .i64 z2] 35)))
                      have HB9 := hide ((HB.out.trans (hb.mono HB.out.size)).alloc (Nat.le_trans HB.out.size hb.size) (.cells #[.int .i64 z1, .int .i64 z2] 35))
                      have HK9 := hide (((heap_old w9 (.cells #[.int .i64 z1, .int .i64 z2] 35) B (Nat.lt_of_lt_of_le (heap_lt HK.out) hb.size)).trans (hb.block B (heap_lt HK.out))).trans HK.out)
                      have HN9 := hide (heap_new w9 (.cells #[.int .i64 z1, .int .i64 z2] 35))
                      clear hb HX HB HK HA HP
                      go_wp2_with fail
                      generalize w9.alloc (.cells #[.int .i64 z1, .int .i64 z2] 35) = wb at *
                      generalize w9.heap.size = Bw at *
                      have c0 : wb.cell? ⟨Bw, 0, none⟩ = some (.int .i64 z1) := by rw [cell_of_block HN9.out]; rfl
                      have c1 : wb.cell? ⟨Bw, 1, none⟩ = some (.int .i64 z2) := by rw [cell_of_block HN9.out]; rfl
                      have d0 : wb.cell? ⟨B, k3 * 2, none⟩ = some (.int .i64 z1) := by rw [cell_of_block HK9.out]; simpa using HF1.out
                      have d1 : wb.cell? ⟨B, k3 * 2 + 1, none⟩ = some (.int .i64 z2) := by rw [cell_of_block HK9.out]; simpa using HF2.out
                      have hneq : ∀ W, (binOp .neq 35 (.agg #[.int .i64 z1, .int .i64 z2]) (.agg #[.int .i64 z1, .int .i64 z2])).run Try.prog W = .ok (.bool false) W := fun W => by rw [neq_place]; simp
                      have hgu := guard_place .neq
                      go_quiet (fail)
                      go_wp2
                      go_roundw
                      case rel => exact ⟨k3 + 1, by omega, by go_num, HX9.out.drewN _, HK9.out, HB9.out.drewN _⟩
                      case measure => simp [intOf]; omega
                    · obtain rfl : k3 = 20 := by omega
                      have HT := hide (total_any HX.out)
                      generalize total S = t at *
                      go_wp2_with fail
                      refine HT.out.mono ?_
                      rintro e w9 ⟨rfl, rfl⟩
                      go_wp2
                      go_ret
                      exact ⟨rfl, HB.out⟩
              | some y =>
                obtain ⟨y1, y2⟩ := y
                have HS := hide hs
                have HY := hide (HX.out.ok n y1 y2 (getD_some hs))
                have HIN := hide HX.out.inj
                clear hs
                refine (at_some HX.out n (by rw [HSL.out]; exact hn20) y1 y2 HS.out).mono ?_
                rintro e w7 ⟨rfl, hb⟩
                have HX7 := hide ((HX.out.below hb).below ((Below.refl _ _).alloc (Nat.le_refl _) (.cells #[.int .i64 y1, .int .i64 y2] 35)))
                have HB7 := hide ((HB.out.trans (hb.mono HB.out.size)).alloc (Nat.le_trans HB.out.size hb.size) (.cells #[.int .i64 y1, .int .i64 y2] 35))
                have HK7 := hide (((heap_old w7 (.cells #[.int .i64 y1, .int .i64 y2] 35) B (Nat.lt_of_lt_of_le (heap_lt HK.out) hb.size)).trans (hb.block B (heap_lt HK.out))).trans HK.out)
                have HN7 := hide (heap_new w7 (.cells #[.int .i64 y1, .int .i64 y2] 35))
                have HL7 := hide (show q < w7.heap.size ∧ o < w7.heap.size ∧ l' < w7.heap.size from ⟨Nat.lt_of_lt_of_le HX.out.lt.2.1 hb.size, Nat.lt_of_lt_of_le HX.out.lt.2.2.1 hb.size, Nat.lt_of_lt_of_le HX.out.lt.2.2.2 hb.size⟩)
                clear hb HX HB HK
                go_wp2_with fail
                generalize w7.alloc (.cells #[.int .i64 y1, .int .i64 y2] 35) = wb at *
                generalize w7.heap.size = Bw at *
                have HPU := put_int HX7.out (n : Int) (ax % 5) (ax / 5 % 6) (by omega) (by rw [HSL.out]; omega) (by omega) (by omega) (by omega) (by omega)
                rw [Int.toNat_natCast] at HPU
                have HP := hide HPU
                clear HPU
                generalize ax % 5 = u1 at *
                generalize ax / 5 % 6 = u2 at *
                by_cases hE : putE S n (u1, u2) = 0
                · have HPB := hide (put_back (S := S) (x := (u1, u2)) (y := (y1, y2)) HIN.out (by rw [HSL.out]; exact hn20) hE HS.out)
                  have HP2 := HP.out
                  unfold putS at HP2
                  rw [hE, if_pos rfl] at HP2
                  have HP3 := hide HP2
                  have HSX := hide (show (S.set n (some (u1, u2))).length = 20 by rw [List.length_set]; exact HSL.out)
                  clear HP2 HP hE
                  generalize S.set n (some (u1, u2)) = S1 at *
                  refine HP3.out.mono ?_
                  rintro e w8 ⟨rfl, hx, hoo⟩
                  have HX8 := hide hx
                  have HB8 := hide (hoo.below HB7.out HG.out HB7.out.size)
                  have HK8 := hide ((hoo.block B (heap_lt HK7.out) (by have := HGP.out; simp; omega)).trans HK7.out)
                  have hn8 := (hoo.block Bw (heap_lt HN7.out) (by have := HL7.out; simp; omega)).trans HN7.out
                  have m0 : w8.cell? ⟨Bw, 0, none⟩ = some (.int .i64 y1) := by rw [cell_of_block hn8]; rfl
                  have m1 : w8.cell? ⟨Bw, 1, none⟩ = some (.int .i64 y2) := by rw [cell_of_block hn8]; rfl
                  clear hx hoo HX7 HB7 HK7 HN7 HP3 hn8
                  go_wp2_with fail
                  have HPR := put_int HX8.out (n : Int) y1 y2 (by omega) (by rw [HSX.out]; omega) HY.out.1 HY.out.2.1 HY.out.2.2.1 HY.out.2.2.2
                  rw [Int.toNat_natCast] at HPR
                  unfold putS at HPR
                  rw [HPB.out.1, if_pos rfl, HPB.out.2] at HPR
                  have HPR2 := hide HPR
                  clear HPR
                  refine HPR2.out.mono ?_
                  rintro e w9 ⟨rfl, hx, hoo⟩
                  have HX9 := hide hx
                  have HB9 := hide (hoo.below HB8.out HG.out HB8.out.size)
                  have HK9 := hide ((hoo.block B (heap_lt HK8.out) (by have := HGP.out; simp; omega)).trans HK8.out)
                  clear hx hoo HX8 HB8 HK8 HPR2 m0 m1
                  have HX := HX9
                  have HB := HB9
                  have HK := HK9
                  clear HX9 HB9 HK9
                  go_wp2_with fail
                  go_loopw [103] (fun i W => ∃ k : Nat, k ≤ 20 ∧ i = .int .i64 k ∧ WhereAt W p q o l' 6 5 S ∧ W.heap[B]? = some (.cells (flat2 L).toArray 57) ∧ Below w.heap.size w W) (fun i _ => 20 - (intOf i).toNat)
                  case atStart => exact ⟨0, by omega, rfl, HX.out, HK.out, HB.out⟩
                  case round =>
                    clear HX HK HB
                    obtain ⟨k3, hk3, rfl, hX, hK, hB⟩ := hrel
                    have HX := hide hX
                    have HK := hide hK
                    have HB := hide hB
                    clear hX hK hB
                    by_cases hlt3 : k3 < 20
                    · have HP := hide (HLS.out k3 hlt3)
                      have HA := hide (at_any HX.out (k3 : Int) (by omega) (by rw [HSL.out]; omega))
                      rw [Int.toNat_natCast] at HA
                      have HF1 := hide (flat2_fst L k3 (by rw [HLL.out]; exact hlt3))
                      have HF2 := hide (flat2_snd L k3 (by rw [HLL.out]; exact hlt3))
                      rw [HP.out] at HF1 HF2
                      generalize (S.getD k3 none).isSome = si at *
                      generalize plZ (S.getD k3 none) = z at *
                      obtain ⟨z1, z2⟩ := z
                      simp only at HA HF1 HF2
                      go_wp2_with fail
                      refine HA.out.mono ?_
                      rintro e w9 ⟨rfl, hb⟩
                      have HX9 := hide ((HX.out.below hb).below ((Below.refl _ _).alloc (Nat.le_refl _) (.cells #[.int .i64 z1, .int .i64 z2] 35)))
                      have HB9 := hide ((HB.out.trans (hb.mono HB.out.size)).alloc (Nat.le_trans HB.out.size hb.size) (.cells #[.int .i64 z1, .int .i64 z2] 35))
                      have HK9 := hide (((heap_old w9 (.cells #[.int .i64 z1, .int .i64 z2] 35) B (Nat.lt_of_lt_of_le (heap_lt HK.out) hb.size)).trans (hb.block B (heap_lt HK.out))).trans HK.out)
                      have HN9 := hide (heap_new w9 (.cells #[.int .i64 z1, .int .i64 z2] 35))
                      clear hb HX HB HK HA HP
                      go_wp2_with fail
                      generalize w9.alloc (.cells #[.int .i64 z1, .int .i64 z2] 35) = wb at *
                      generalize w9.heap.size = Bw at *
                      have c0 : wb.cell? ⟨Bw, 0, none⟩ = some (.int .i64 z1) := by rw [cell_of_block HN9.out]; rfl
                      have c1 : wb.cell? ⟨Bw, 1, none⟩ = some (.int .i64 z2) := by rw [cell_of_block HN9.out]; rfl
                      have d0 : wb.cell? ⟨B, k3 * 2, none⟩ = some (.int .i64 z1) := by rw [cell_of_block HK9.out]; simpa using HF1.out
                      have d1 : wb.cell? ⟨B, k3 * 2 + 1, none⟩ = some (.int .i64 z2) := by rw [cell_of_block HK9.out]; simpa using HF2.out
                      have hneq : ∀ W, (binOp .neq 35 (.agg #[.int .i64 z1, .int .i64 z2]) (.agg #[.int .i64 z1, .int .i64 z2])).run Try.prog W = .ok (.bool false) W := fun W => by rw [neq_place]; simp
                      have hgu := guard_place .neq
                      go_quiet (fail)
                      go_wp2
                      go_roundw
                      case rel => exact ⟨k3 + 1, by omega, by go_num, HX9.out.drewN _, HK9.out, HB9.out.drewN _⟩
                      case measure => simp [intOf]; omega
                    · obtain rfl : k3 = 20 := by omega
                      have HT := hide (total_any HX.out)
                      generalize total S = t at *
                      go_wp2_with fail
                      refine HT.out.mono ?_
                      rintro e w9 ⟨rfl, rfl⟩
                      go_wp2
                      go_ret
                      exact ⟨rfl, HB.out⟩
                · have HP2 := HP.out
                  unfold putS at HP2
                  rw [if_neg hE] at HP2
                  have hE0 : (putE S n (u1, u2) == 0) = false := by simpa using hE
                  have HP3 := hide HP2
                  clear HP2 HP
                  generalize putE S n (u1, u2) = E at *
                  clear hE
                  refine HP3.out.mono ?_
                  rintro e w8 ⟨rfl, hx, hoo⟩
                  have HX8 := hide hx
                  have HB8 := hide (hoo.below HB7.out HG.out HB7.out.size)
                  have HK8 := hide ((hoo.block B (heap_lt HK7.out) (by have := HGP.out; simp; omega)).trans HK7.out)
                  clear hx hoo HX7 HB7 HK7 HN7 HP3
                  have HX := HX8
                  have HB := HB8
                  have HK := HK8
                  clear HX8 HB8 HK8
                  go_wp2_with fail
                  go_loopw [103] (fun i W => ∃ k : Nat, k ≤ 20 ∧ i = .int .i64 k ∧ WhereAt W p q o l' 6 5 S ∧ W.heap[B]? = some (.cells (flat2 L).toArray 57) ∧ Below w.heap.size w W) (fun i _ => 20 - (intOf i).toNat)
                  case atStart => exact ⟨0, by omega, rfl, HX.out, HK.out, HB.out⟩
                  case round =>
                    clear HX HK HB
                    obtain ⟨k3, hk3, rfl, hX, hK, hB⟩ := hrel
                    have HX := hide hX
                    have HK := hide hK
                    have HB := hide hB
                    clear hX hK hB
                    by_cases hlt3 : k3 < 20
                    · have HP := hide (HLS.out k3 hlt3)
                      have HA := hide (at_any HX.out (k3 : Int) (by omega) (by rw [HSL.out]; omega))
                      rw [Int.toNat_natCast] at HA
                      have HF1 := hide (flat2_fst L k3 (by rw [HLL.out]; exact hlt3))
                      have HF2 := hide (flat2_snd L k3 (by rw [HLL.out]; exact hlt3))
                      rw [HP.out] at HF1 HF2
                      generalize (S.getD k3 none).isSome = si at *
                      generalize plZ (S.getD k3 none) = z at *
                      obtain ⟨z1, z2⟩ := z
                      simp only at HA HF1 HF2
                      go_wp2_with fail
                      refine HA.out.mono ?_
                      rintro e w9 ⟨rfl, hb⟩
                      have HX9 := hide ((HX.out.below hb).below ((Below.refl _ _).alloc (Nat.le_refl _) (.cells #[.int .i64 z1, .int .i64 z2] 35)))
                      have HB9 := hide ((HB.out.trans (hb.mono HB.out.size)).alloc (Nat.le_trans HB.out.size hb.size) (.cells #[.int .i64 z1, .int .i64 z2] 35))
                      have HK9 := hide (((heap_old w9 (.cells #[.int .i64 z1, .int .i64 z2] 35) B (Nat.lt_of_lt_of_le (heap_lt HK.out) hb.size)).trans (hb.block B (heap_lt HK.out))).trans HK.out)
                      have HN9 := hide (heap_new w9 (.cells #[.int .i64 z1, .int .i64 z2] 35))
                      clear hb HX HB HK HA HP
                      go_wp2_with fail
                      generalize w9.alloc (.cells #[.int .i64 z1, .int .i64 z2] 35) = wb at *
                      generalize w9.heap.size = Bw at *
                      have c0 : wb.cell? ⟨Bw, 0, none⟩ = some (.int .i64 z1) := by rw [cell_of_block HN9.out]; rfl
                      have c1 : wb.cell? ⟨Bw, 1, none⟩ = some (.int .i64 z2) := by rw [cell_of_block HN9.out]; rfl
                      have d0 : wb.cell? ⟨B, k3 * 2, none⟩ = some (.int .i64 z1) := by rw [cell_of_block HK9.out]; simpa using HF1.out
                      have d1 : wb.cell? ⟨B, k3 * 2 + 1, none⟩ = some (.int .i64 z2) := by rw [cell_of_block HK9.out]; simpa using HF2.out
                      have hneq : ∀ W, (binOp .neq 35 (.agg #[.int .i64 z1, .int .i64 z2]) (.agg #[.int .i64 z1, .int .i64 z2])).run Try.prog W = .ok (.bool false) W := fun W => by rw [neq_place]; simp
                      have hgu := guard_place .neq
                      go_quiet (fail)
                      go_wp2
                      go_roundw
                      case rel => exact ⟨k3 + 1, by omega, by go_num, HX9.out.drewN _, HK9.out, HB9.out.drewN _⟩
                      case measure => simp [intOf]; omega
                    · obtain rfl : k3 = 20 := by omega
                      have HT := hide (total_any HX.out)
                      generalize total S = t at *
                      go_wp2_with fail
                      refine HT.out.mono ?_
                      rintro e w9 ⟨rfl, rfl⟩
                      go_wp2
                      go_ret
                      exact ⟨rfl, HB.out⟩
set_option maxRecDepth 100000 in
set_option maxHeartbeats 400000 in
theorem whereBack_big (zs : List Int) (hzs : ∀ z ∈ zs, (Lit.int .u16 z).wf = true) (a : Option Addr) (cap : Nat) (hcap : zs.length ≤ cap) (hmaxl : zs.length ≤ 9223372036854775807) (kk : Int) (k0 : 0 ≤ kk) (k1 : kk ≤ 255) (ax : Int) (a0 : 0 ≤ ax) (a1 : ax ≤ 255) (w : World)
    (hat : ∀ i, i < zs.length → ∃ b off, a = some ⟨b, off, none⟩ ∧ b < w.heap.size ∧ w.cell? ⟨b, off + i, none⟩ = some (.int .u16 (zs.getD i 0))) (hbig : 40 < zs.length) :
    Calls Try.prog 6 #[.slice a zs.length cap, .int .u8 kk, .int .u8 ax] w fun e w' => e = .returned (.bool true) ∧ Below w.heap.size w w' := by
  have HZS := hide hzs
  have HAT := hide hat
  clear hzs hat
  go_enter Try.func6, Try.ntmps6
  go_wp2_with fail
  refine (newW_yes 5 6 20 (by omega) (by omega) (by omega) (by omega) (by omega) (by omega) _).mono ?_
  rintro e w1 ⟨p, q, o, l', rfl, hW, hb, gp, gq, go, gl⟩
  have HG := hide (show ∀ r ∈ [q, o, l'], w.heap.size ≤ r by simp; omega)
  have H1 := hide hW
  have B1 := hide hb
  clear hW hb gp gq go gl
  go_wp2_with fail
  refine (wakes12 _).mono ?_
  rintro e w2 ⟨rfl, hb⟩
  have H2 := hide (H1.out.below hb)
  have B2 := hide (B1.out.trans (hb.mono B1.out.size))
  clear hb H1 B1
  go_wp2_with fail
  go_loopw [40] (fun i W => ∃ (k : Nat) (S : Spots), k ≤ 40 ∧ i = .int .i64 k ∧ S.length = 20 ∧ WhereAt W p q o l' 6 5 S ∧ Below w.heap.size w W) (fun i _ => 40 - (intOf i).toNat)
  case atStart => exact ⟨0, _, by omega, rfl, List.length_replicate, H2.out, B2.out⟩
  case round =>
    clear H2 B2
    obtain ⟨k, S, hk, rfl, hSL, hX, hB⟩ := hrel
    have HX := hide hX
    have HB := hide hB
    have HSL := hide hSL
    by_cases hlt : k < 40
    · obtain ⟨b, off, rfl, hb, c0⟩ := HAT.out k (by omega)
      have d0 : wr.cell? ⟨b, off + k, none⟩ = some (.int .u16 (zs.getD k 0)) := (hB.cell (p := ⟨b, off + k, none⟩) hb).trans c0
      obtain ⟨x0, x1⟩ := wf_u16 (wf_getD HZS.out k (by omega))
      generalize zs.getD k 0 = x at *
      have hbw : b < wr.heap.size := Nat.lt_of_lt_of_le hb hB.size
      clear hX hB hSL hb c0
      as_aux_lemma =>
        go_wp2_with fail
        rw [u16_quo x 20 5 x0 x1 (by omega) (by omega), u16_quo x 100 6 x0 x1 (by omega) (by omega)]
        refine (put_int HX.out (x % 20) (x / 20 % 5) (x / 100 % 6) (by omega) (by rw [HSL.out]; omega) (by omega) (by omega) (by omega) (by omega)).mono ?_
        rintro e w5 ⟨rfl, hx5, ho5⟩
        have HX5 := hide hx5
        have HB5 := hide (ho5.below HB.out HG.out HB.out.size)
        have HS5 := hide ((putS_len S (x % 20).toNat (x / 20 % 5, x / 100 % 6)).trans HSL.out)
        clear hx5 ho5 d0
        go_wp2_with fail
        go_roundw
        case rel => exact ⟨k + 1, _, by omega, by go_num, HS5.out, HX5.out, HB5.out⟩
        case measure => simp [intOf]; omega
    · obtain rfl : k = 40 := by omega
      clear hX hB hSL
      obtain ⟨wo, rfl⟩ : ∃ wo : World, wo = wr := ⟨_, rfl⟩
      as_aux_lemma =>
        have HGP := hide HX.out.lt
        go_wp2_with (first | (refine wpList_buildZ _ rfl 57 rfl _ (build_Z _) ?_) | (refine wpList_allocZ _ rfl 57 rfl _ _ (alloc_Z _) ?_) | (refine wpList_storeZ _ rfl 57 _ _ rfl _ _ _ rfl rfl (store_Z _) ?_))
        have HK1 := hide (show (wo.alloc (.cells Z40 57)).heap[wo.heap.size]? = some (.cells (flat2 (List.replicate 20 (0, 0))).toArray 57) from heap_new _ _)
        have HX1 := hide (HX.out.below ((Below.refl _ _).alloc (Nat.le_refl _) (.cells Z40 57)))
        have HB1 := hide (HB.out.alloc HB.out.size (.cells Z40 57))
        have HBB := hide HB.out.size
        generalize wo.alloc (.cells Z40 57) = wz at *
        generalize wo.heap.size = B at *
        clear HX HB
        as_aux_lemma =>
          go_loopw [60] (fun i W => ∃ (k : Nat) (L : List (Int × Int)), k ≤ 20 ∧ i = .int .i64 k ∧ L.length = 20 ∧ W.heap[B]? = some (.cells (flat2 L).toArray 57) ∧ (∀ j, j < k → L.getD j (0, 0) = plZ (S.getD j none)) ∧ WhereAt W p q o l' 6 5 S ∧ Below w.heap.size w W) (fun i _ => 20 - (intOf i).toNat)
          case atStart => exact ⟨0, _, by omega, rfl, List.length_replicate, HK1.out, fun j hj => by omega, HX1.out, HB1.out⟩
          case round =>
            clear HX1 HB1 HK1
            obtain ⟨k2, L, hk2, rfl, hLL, hK, hLS, hX, hB⟩ := hrel
            have HX := hide hX
            have HB := hide hB
            have HK := hide hK
            have HLL := hide hLL
            have HLS := hide hLS
            clear hX hB hK hLL hLS
            by_cases hlt2 : k2 < 20
            · have HA := hide (at_any HX.out (k2 : Int) (by omega) (by rw [HSL.out]; omega))
              rw [Int.toNat_natCast] at HA
              have HZ := hide (show plZ (S.getD k2 none) = plZ (S.getD k2 none) from rfl)
              generalize (S.getD k2 none).isSome = si at *
              obtain ⟨z, hz⟩ : ∃ z, z = plZ (S.getD k2 none) := ⟨_, rfl⟩
              rw [← hz] at HA
              have HZE := hide hz
              clear hz HZ
              go_wp2_with fail
              refine HA.out.mono ?_
              rintro e w5 ⟨rfl, hb⟩
              have HX5 := hide (HX.out.below hb)
              have HB5 := hide (HB.out.trans (hb.mono HB.out.size))
              have hk5 := (hb.block B (heap_lt HK.out)).trans HK.out
              have HK5 := hide hk5
              have d0 : w5.cell? ⟨B, k2 * 2, none⟩ = some (.int .i64 (L.getD k2 (0, 0)).1) := by rw [cell_of_block hk5]; simpa using flat2_fst L k2 (by rw [HLL.out]; exact hlt2)
              have d1 : w5.cell? ⟨B, k2 * 2 + 1, none⟩ = some (.int .i64 (L.getD k2 (0, 0)).2) := by rw [cell_of_block hk5]; simpa using flat2_snd L k2 (by rw [HLL.out]; exact hlt2)
              have f0 : w5.frozen? ⟨B, k2 * 2, none⟩ = false := frozen_of_block hk5 _
              have f1 : w5.frozen? ⟨B, k2 * 2 + 1, none⟩ = false := frozen_of_block hk5 _
              clear hb hk5 HX HB HK HA
              go_wp2_with fail
              go_roundw
              case rel => exact ⟨k2 + 1, L.set k2 z, by omega, by go_num, by rw [List.length_set]; exact HLL.out, two_set HK5.out (by rw [HLL.out]; exact hlt2) z, set_next HLL.out HLS.out hlt2 HZE.out, (HX5.out.onlyL (((OnlyL.setCell (qs := [B]) (by simp) _ _).trans (OnlyL.setCell (by simp) _ _))) (by have := HGP.out; have := HBB.out; simp; omega) (by have := HGP.out; simp; omega) (by have := HGP.out; simp; omega) (by have := HGP.out; simp; omega)), (HB5.out.setCell HBB.out _).setCell HBB.out _⟩
              case measure => simp [intOf]; omega
            · obtain rfl : k2 = 20 := by omega
              obtain ⟨wo2, rfl⟩ : ∃ wo2 : World, wo2 = wr := ⟨_, rfl⟩
              obtain ⟨n, hn⟩ := Int.eq_ofNat_of_zero_le (show 0 ≤ kk % 20 by omega)
              have hn20 : n < 20 := by omega
              have HNN := hide hn
              clear hn hlt hlt2 hk hk2 HZS HAT
              go_wp2_with fail
              refine (total_any HX.out).mono ?_
              rintro e w6 ⟨rfl, rfl⟩
              go_wp2_with fail
              rw [HNN.out]
              cases hs : S.getD n none with
              | none =>
                have HS := hide hs
                clear hs
                refine (at_none HX.out n (by rw [HSL.out]; exact hn20) HS.out).mono ?_
                rintro e w7 ⟨rfl, hb⟩
                have HX7 := hide ((HX.out.below hb).below ((Below.refl _ _).alloc (Nat.le_refl _) (.cells #[.int .i64 0, .int .i64 0] 35)))
                have HB7 := hide ((HB.out.trans (hb.mono HB.out.size)).alloc (Nat.le_trans HB.out.size hb.size) (.cells #[.int .i64 0, .int .i64 0] 35))
                have HK7 := hide (((heap_old w7 (.cells #[.int .i64 0, .int .i64 0] 35) B (Nat.lt_of_lt_of_le (heap_lt HK.out) hb.size)).trans (hb.block B (heap_lt HK.out))).trans HK.out)
                have HN7 := hide (heap_new w7 (.cells #[.int .i64 0, .int .i64 0] 35))
                have HL7 := hide (show q < w7.heap.size ∧ o < w7.heap.size ∧ l' < w7.heap.size from ⟨Nat.lt_of_lt_of_le HX.out.lt.2.1 hb.size, Nat.lt_of_lt_of_le HX.out.lt.2.2.1 hb.size, Nat.lt_of_lt_of_le HX.out.lt.2.2.2 hb.size⟩)
                clear hb HX HB HK
                go_wp2_with fail
                generalize w7.alloc (.cells #[.int .i64 0, .int .i64 0] 35) = wb at *
                generalize w7.heap.size = Bw at *
                have HPU := put_int HX7.out (n : Int) (ax % 5) (ax / 5 % 6) (by omega) (by rw [HSL.out]; omega) (by omega) (by omega) (by omega) (by omega)
                rw [Int.toNat_natCast] at HPU
                have HP := hide HPU
                clear HPU
                generalize ax % 5 = u1 at *
                generalize ax / 5 % 6 = u2 at *
                by_cases hE : putE S n (u1, u2) = 0
                · have HP2 := HP.out
                  unfold putS at HP2
                  rw [hE, if_pos rfl] at HP2
                  have HP3 := hide HP2
                  have HD := hide (drop_back (S := S) (x := (u1, u2)) (by rw [HSL.out]; exact hn20) HS.out)
                  have HSX := hide (show (S.set n (some (u1, u2))).length = 20 by rw [List.length_set]; exact HSL.out)
                  clear HP2 HP hE
                  generalize S.set n (some (u1, u2)) = S1 at *
                  refine HP3.out.mono ?_
                  rintro e w8 ⟨rfl, hx, hoo⟩
                  have HX8 := hide hx
                  have HB8 := hide (hoo.below HB7.out HG.out HB7.out.size)
                  have HK8 := hide ((hoo.block B (heap_lt HK7.out) (by have := HGP.out; simp; omega)).trans HK7.out)
                  clear hx hoo HX7 HB7 HK7 HN7 HP3
                  go_wp2_with fail
                  have HDR := drop_int HX8.out (n : Int) (by omega) (by rw [HSX.out]; omega)
                  rw [Int.toNat_natCast, HD.out] at HDR
                  have HDR2 := hide HDR
                  clear HDR
                  refine HDR2.out.mono ?_
                  rintro e w9 ⟨rfl, hx, hoo⟩
                  have HX9 := hide hx
                  have HB9 := hide (hoo.below HB8.out HG.out HB8.out.size)
                  have HK9 := hide ((hoo.block B (heap_lt HK8.out) (by have := HGP.out; simp; omega)).trans HK8.out)
                  clear hx hoo HX8 HB8 HK8 HDR2
                  have HX := HX9
                  have HB := HB9
                  have HK := HK9
                  clear HX9 HB9 HK9
                  go_wp2_with fail
                  go_loopw [103] (fun i W => ∃ k : Nat, k ≤ 20 ∧ i = .int .i64 k ∧ WhereAt W p q o l' 6 5 S ∧ W.heap[B]? = some (.cells (flat2 L).toArray 57) ∧ Below w.heap.size w W) (fun i _ => 20 - (intOf i).toNat)
                  case atStart => exact ⟨0, by omega, rfl, HX.out, HK.out, HB.out⟩
                  case round =>
                    clear HX HK HB
                    obtain ⟨k3, hk3, rfl, hX, hK, hB⟩ := hrel
                    have HX := hide hX
                    have HK := hide hK
                    have HB := hide hB
                    clear hX hK hB
                    by_cases hlt3 : k3 < 20
                    · have HP := hide (HLS.out k3 hlt3)
                      have HA := hide (at_any HX.out (k3 : Int) (by omega) (by rw [HSL.out]; omega))
                      rw [Int.toNat_natCast] at HA
                      have HF1 := hide (flat2_fst L k3 (by rw [HLL.out]; exact hlt3))
                      have HF2 := hide (flat2_snd L k3 (by rw [HLL.out]; exact hlt3))
                      rw [HP.out] at HF1 HF2
                      generalize (S.getD k3 none).isSome = si at *
                      generalize plZ (S.getD k3 none) = z at *
                      obtain ⟨z1, z2⟩ := z
                      simp only at HA HF1 HF2
                      go_wp2_with fail
                      refine HA.out.mono ?_
                      rintro e w9 ⟨rfl, hb⟩
                      have HX9 := hide ((HX.out.below hb).below ((Below.refl _ _).alloc (Nat.le_refl _) (.cells #[.int .i64 z1, .int .i64 z2] 35)))
                      have HB9 := hide ((HB.out.trans (hb.mono HB.out.size)).alloc (Nat.le_trans HB.out.size hb.size) (.cells #[.int .i64 z1, .int .i64 z2] 35))
                      have HK9 := hide (((heap_old w9 (.cells #[.int .i64 z1, .int .i64 z2] 35) B (Nat.lt_of_lt_of_le (heap_lt HK.out) hb.size)).trans (hb.block B (heap_lt HK.out))).trans HK.out)
                      have HN9 := hide (heap_new w9 (.cells #[.int .i64 z1, .int .i64 z2] 35))
                      clear hb HX HB HK HA HP
                      go_wp2_with fail
                      generalize w9.alloc (.cells #[.int .i64 z1, .int .i64 z2] 35) = wb at *
                      generalize w9.heap.size = Bw at *
                      have c0 : wb.cell? ⟨Bw, 0, none⟩ = some (.int .i64 z1) := by rw [cell_of_block HN9.out]; rfl
                      have c1 : wb.cell? ⟨Bw, 1, none⟩ = some (.int .i64 z2) := by rw [cell_of_block HN9.out]; rfl
                      have d0 : wb.cell? ⟨B, k3 * 2, none⟩ = some (.int .i64 z1) := by rw [cell_of_block HK9.out]; simpa using HF1.out
                      have d1 : wb.cell? ⟨B, k3 * 2 + 1, none⟩ = some (.int .i64 z2) := by rw [cell_of_block HK9.out]; simpa using HF2.out
                      have hneq : ∀ W, (binOp .neq 35 (.agg #[.int .i64 z1, .int .i64 z2]) (.agg #[.int .i64 z1, .int .i64 z2])).run Try.prog W = .ok (.bool false) W := fun W => by rw [neq_place]; simp
                      have hgu := guard_place .neq
                      go_quiet (fail)
                      go_wp2
                      go_roundw
                      case rel => exact ⟨k3 + 1, by omega, by go_num, HX9.out.drewN _, HK9.out, HB9.out.drewN _⟩
                      case measure => simp [intOf]; omega
                    · obtain rfl : k3 = 20 := by omega
                      have HT := hide (total_any HX.out)
                      generalize total S = t at *
                      go_wp2_with fail
                      refine HT.out.mono ?_
                      rintro e w9 ⟨rfl, rfl⟩
                      go_wp2
                      go_ret
                      exact ⟨rfl, HB.out⟩
                · have HP2 := HP.out
                  unfold putS at HP2
                  rw [if_neg hE] at HP2
                  have hE0 : (putE S n (u1, u2) == 0) = false := by simpa using hE
                  have HP3 := hide HP2
                  clear HP2 HP
                  generalize putE S n (u1, u2) = E at *
                  clear hE
                  refine HP3.out.mono ?_
                  rintro e w8 ⟨rfl, hx, hoo⟩
                  have HX8 := hide hx
                  have HB8 := hide (hoo.below HB7.out HG.out HB7.out.size)
                  have HK8 := hide ((hoo.block B (heap_lt HK7.out) (by have := HGP.out; simp; omega)).trans HK7.out)
                  clear hx hoo HX7 HB7 HK7 HN7 HP3
                  have HX := HX8
                  have HB := HB8
                  have HK := HK8
                  clear HX8 HB8 HK8
                  go_wp2_with fail
                  go_loopw [103] (fun i W => ∃ k : Nat, k ≤ 20 ∧ i = .int .i64 k ∧ WhereAt W p q o l' 6 5 S ∧ W.heap[B]? = some (.cells (flat2 L).toArray 57) ∧ Below w.heap.size w W) (fun i _ => 20 - (intOf i).toNat)
                  case atStart => exact ⟨0, by omega, rfl, HX.out, HK.out, HB.out⟩
                  case round =>
                    clear HX HK HB
                    obtain ⟨k3, hk3, rfl, hX, hK, hB⟩ := hrel
                    have HX := hide hX
                    have HK := hide hK
                    have HB := hide hB
                    clear hX hK hB
                    by_cases hlt3 : k3 < 20
                    · have HP := hide (HLS.out k3 hlt3)
                      have HA := hide (at_any HX.out (k3 : Int) (by omega) (by rw [HSL.out]; omega))
                      rw [Int.toNat_natCast] at HA
                      have HF1 := hide (flat2_fst L k3 (by rw [HLL.out]; exact hlt3))
                      have HF2 := hide (flat2_snd L k3 (by rw [HLL.out]; exact hlt3))
                      rw [HP.out] at HF1 HF2
                      generalize (S.getD k3 none).isSome = si at *
                      generalize plZ (S.getD k3 none) = z at *
                      obtain ⟨z1, z2⟩ := z
                      simp only at HA HF1 HF2
                      go_wp2_with fail
                      refine HA.out.mono ?_
                      rintro e w9 ⟨rfl, hb⟩
                      have HX9 := hide ((HX.out.below hb).below ((Below.refl _ _).alloc (Nat.le_refl _) (.cells #[.int .i64 z1, .int .i64 z2] 35)))
                      have HB9 := hide ((HB.out.trans (hb.mono HB.out.size)).alloc (Nat.le_trans HB.out.size hb.size) (.cells #[.int .i64 z1, .int .i64 z2] 35))
                      have HK9 := hide (((heap_old w9 (.cells #[.int .i64 z1, .int .i64 z2] 35) B (Nat.lt_of_lt_of_le (heap_lt HK.out) hb.size)).trans (hb.block B (heap_lt HK.out))).trans HK.out)
                      have HN9 := hide (heap_new w9 (.cells #[.int .i64 z1, .int .i64 z2] 35))
                      clear hb HX HB HK HA HP
                      go_wp2_with fail
                      generalize w9.alloc (.cells #[.int .i64 z1, .int .i64 z2] 35) = wb at *
                      generalize w9.heap.size = Bw at *
                      have c0 : wb.cell? ⟨Bw, 0, none⟩ = some (.int .i64 z1) := by rw [cell_of_block HN9.out]; rfl
                      have c1 : wb.cell? ⟨Bw, 1, none⟩ = some (.int .i64 z2) := by rw [cell_of_block HN9.out]; rfl
                      have d0 : wb.cell? ⟨B, k3 * 2, none⟩ = some (.int .i64 z1) := by rw [cell_of_block HK9.out]; simpa using HF1.out
                      have d1 : wb.cell? ⟨B, k3 * 2 + 1, none⟩ = some (.int .i64 z2) := by rw [cell_of_block HK9.out]; simpa using HF2.out
                      have hneq : ∀ W, (binOp .neq 35 (.agg #[.int .i64 z1, .int .i64 z2]) (.agg #[.int .i64 z1, .int .i64 z2])).run Try.prog W = .ok (.bool false) W := fun W => by rw [neq_place]; simp
                      have hgu := guard_place .neq
                      go_quiet (fail)
                      go_wp2
                      go_roundw
                      case rel => exact ⟨k3 + 1, by omega, by go_num, HX9.out.drewN _, HK9.out, HB9.out.drewN _⟩
                      case measure => simp [intOf]; omega
                    · obtain rfl : k3 = 20 := by omega
                      have HT := hide (total_any HX.out)
                      generalize total S = t at *
                      go_wp2_with fail
                      refine HT.out.mono ?_
                      rintro e w9 ⟨rfl, rfl⟩
                      go_wp2
                      go_ret
                      exact ⟨rfl, HB.out⟩
              | some y =>
                obtain ⟨y1, y2⟩ := y
                have HS := hide hs
                have HY := hide (HX.out.ok n y1 y2 (getD_some hs))
                have HIN := hide HX.out.inj
                clear hs
                refine (at_some HX.out n (by rw [HSL.out]; exact hn20) y1 y2 HS.out).mono ?_
                rintro e w7 ⟨rfl, hb⟩
                have HX7 := hide ((HX.out.below hb).below ((Below.refl _ _).alloc (Nat.le_refl _) (.cells #[.int .i64 y1, .int .i64 y2] 35)))
                have HB7 := hide ((HB.out.trans (hb.mono HB.out.size)).alloc (Nat.le_trans HB.out.size hb.size) (.cells #[.int .i64 y1, .int .i64 y2] 35))
                have HK7 := hide (((heap_old w7 (.cells #[.int .i64 y1, .int .i64 y2] 35) B (Nat.lt_of_lt_of_le (heap_lt HK.out) hb.size)).trans (hb.block B (heap_lt HK.out))).trans HK.out)
                have HN7 := hide (heap_new w7 (.cells #[.int .i64 y1, .int .i64 y2] 35))
                have HL7 := hide (show q < w7.heap.size ∧ o < w7.heap.size ∧ l' < w7.heap.size from ⟨Nat.lt_of_lt_of_le HX.out.lt.2.1 hb.size, Nat.lt_of_lt_of_le HX.out.lt.2.2.1 hb.size, Nat.lt_of_lt_of_le HX.out.lt.2.2.2 hb.size⟩)
                clear hb HX HB HK
                go_wp2_with fail
                generalize w7.alloc (.cells #[.int .i64 y1, .int .i64 y2] 35) = wb at *
                generalize w7.heap.size = Bw at *
                have HPU := put_int HX7.out (n : Int) (ax % 5) (ax / 5 % 6) (by omega) (by rw [HSL.out]; omega) (by omega) (by omega) (by omega) (by omega)
                rw [Int.toNat_natCast] at HPU
                have HP := hide HPU
                clear HPU
                generalize ax % 5 = u1 at *
                generalize ax / 5 % 6 = u2 at *
                by_cases hE : putE S n (u1, u2) = 0
                · have HPB := hide (put_back (S := S) (x := (u1, u2)) (y := (y1, y2)) HIN.out (by rw [HSL.out]; exact hn20) hE HS.out)
                  have HP2 := HP.out
                  unfold putS at HP2
                  rw [hE, if_pos rfl] at HP2
                  have HP3 := hide HP2
                  have HSX := hide (show (S.set n (some (u1, u2))).length = 20 by rw [List.length_set]; exact HSL.out)
                  clear HP2 HP hE
                  generalize S.set n (some (u1, u2)) = S1 at *
                  refine HP3.out.mono ?_
                  rintro e w8 ⟨rfl, hx, hoo⟩
                  have HX8 := hide hx
                  have HB8 := hide (hoo.below HB7.out HG.out HB7.out.size)
                  have HK8 := hide ((hoo.block B (heap_lt HK7.out) (by have := HGP.out; simp; omega)).trans HK7.out)
                  have hn8 := (hoo.block Bw (heap_lt HN7.out) (by have := HL7.out; simp; omega)).trans HN7.out
                  have m0 : w8.cell? ⟨Bw, 0, none⟩ = some (.int .i64 y1) := by rw [cell_of_block hn8]; rfl
                  have m1 : w8.cell? ⟨Bw, 1, none⟩ = some (.int .i64 y2) := by rw [cell_of_block hn8]; rfl
                  clear hx hoo HX7 HB7 HK7 HN7 HP3 hn8
                  go_wp2_with fail
                  have HPR := put_int HX8.out (n : Int) y1 y2 (by omega) (by rw [HSX.out]; omega) HY.out.1 HY.out.2.1 HY.out.2.2.1 HY.out.2.2.2
                  rw [Int.toNat_natCast] at HPR
                  unfold putS at HPR
                  rw [HPB.out.1, if_pos rfl, HPB.out.2] at HPR
                  have HPR2 := hide HPR
                  clear HPR
                  refine HPR2.out.mono ?_
                  rintro e w9 ⟨rfl, hx, hoo⟩
                  have HX9 := hide hx
                  have HB9 := hide (hoo.below HB8.out HG.out HB8.out.size)
                  have HK9 := hide ((hoo.block B (heap_lt HK8.out) (by have := HGP.out; simp; omega)).trans HK8.out)
                  clear hx hoo HX8 HB8 HK8 HPR2 m0 m1
                  have HX := HX9
                  have HB := HB9
                  have HK := HK9
                  clear HX9 HB9 HK9
                  go_wp2_with fail
                  go_loopw [103] (fun i W => ∃ k : Nat, k ≤ 20 ∧ i = .int .i64 k ∧ WhereAt W p q o l' 6 5 S ∧ W.heap[B]? = some (.cells (flat2 L).toArray 57) ∧ Below w.heap.size w W) (fun i _ => 20 - (intOf i).toNat)
                  case atStart => exact ⟨0, by omega, rfl, HX.out, HK.out, HB.out⟩
                  case round =>
                    clear HX HK HB
                    obtain ⟨k3, hk3, rfl, hX, hK, hB⟩ := hrel
                    have HX := hide hX
                    have HK := hide hK
                    have HB := hide hB
                    clear hX hK hB
                    by_cases hlt3 : k3 < 20
                    · have HP := hide (HLS.out k3 hlt3)
                      have HA := hide (at_any HX.out (k3 : Int) (by omega) (by rw [HSL.out]; omega))
                      rw [Int.toNat_natCast] at HA
                      have HF1 := hide (flat2_fst L k3 (by rw [HLL.out]; exact hlt3))
                      have HF2 := hide (flat2_snd L k3 (by rw [HLL.out]; exact hlt3))
                      rw [HP.out] at HF1 HF2
                      generalize (S.getD k3 none).isSome = si at *
                      generalize plZ (S.getD k3 none) = z at *
                      obtain ⟨z1, z2⟩ := z
                      simp only at HA HF1 HF2
                      go_wp2_with fail
                      refine HA.out.mono ?_
                      rintro e w9 ⟨rfl, hb⟩
                      have HX9 := hide ((HX.out.below hb).below ((Below.refl _ _).alloc (Nat.le_refl _) (.cells #[.int .i64 z1, .int .i64 z2] 35)))
                      have HB9 := hide ((HB.out.trans (hb.mono HB.out.size)).alloc (Nat.le_trans HB.out.size hb.size) (.cells #[.int .i64 z1, .int .i64 z2] 35))
                      have HK9 := hide (((heap_old w9 (.cells #[.int .i64 z1, .int .i64 z2] 35) B (Nat.lt_of_lt_of_le (heap_lt HK.out) hb.size)).trans (hb.block B (heap_lt HK.out))).trans HK.out)
                      have HN9 := hide (heap_new w9 (.cells #[.int .i64 z1, .int .i64 z2] 35))
                      clear hb HX HB HK HA HP
                      go_wp2_with fail
                      generalize w9.alloc (.cells #[.int .i64 z1, .int .i64 z2] 35) = wb at *
                      generalize w9.heap.size = Bw at *
                      have c0 : wb.cell? ⟨Bw, 0, none⟩ = some (.int .i64 z1) := by rw [cell_of_block HN9.out]; rfl
                      have c1 : wb.cell? ⟨Bw, 1, none⟩ = some (.int .i64 z2) := by rw [cell_of_block HN9.out]; rfl
                      have d0 : wb.cell? ⟨B, k3 * 2, none⟩ = some (.int .i64 z1) := by rw [cell_of_block HK9.out]; simpa using HF1.out
                      have d1 : wb.cell? ⟨B, k3 * 2 + 1, none⟩ = some (.int .i64 z2) := by rw [cell_of_block HK9.out]; simpa using HF2.out
                      have hneq : ∀ W, (binOp .neq 35 (.agg #[.int .i64 z1, .int .i64 z2]) (.agg #[.int .i64 z1, .int .i64 z2])).run Try.prog W = .ok (.bool false) W := fun W => by rw [neq_place]; simp
                      have hgu := guard_place .neq
                      go_quiet (fail)
                      go_wp2
                      go_roundw
                      case rel => exact ⟨k3 + 1, by omega, by go_num, HX9.out.drewN _, HK9.out, HB9.out.drewN _⟩
                      case measure => simp [intOf]; omega
                    · obtain rfl : k3 = 20 := by omega
                      have HT := hide (total_any HX.out)
                      generalize total S = t at *
                      go_wp2_with fail
                      refine HT.out.mono ?_
                      rintro e w9 ⟨rfl, rfl⟩
                      go_wp2
                      go_ret
                      exact ⟨rfl, HB.out⟩
                · have HP2 := HP.out
                  unfold putS at HP2
                  rw [if_neg hE] at HP2
                  have hE0 : (putE S n (u1, u2) == 0) = false := by simpa using hE
                  have HP3 := hide HP2
                  clear HP2 HP
                  generalize putE S n (u1, u2) = E at *
                  clear hE
                  refine HP3.out.mono ?_
                  rintro e w8 ⟨rfl, hx, hoo⟩
                  have HX8 := hide hx
                  have HB8 := hide (hoo.below HB7.out HG.out HB7.out.size)
                  have HK8 := hide ((hoo.block B (heap_lt HK7.out) (by have := HGP.out; simp; omega)).trans HK7.out)
                  clear hx hoo HX7 HB7 HK7 HN7 HP3
                  have HX := HX8
                  have HB := HB8
                  have HK := HK8
                  clear HX8 HB8 HK8
                  go_wp2_with fail
                  go_loopw [103] (fun i W => ∃ k : Nat, k ≤ 20 ∧ i = .int .i64 k ∧ WhereAt W p q o l' 6 5 S ∧ W.heap[B]? = some (.cells (flat2 L).toArray 57) ∧ Below w.heap.size w W) (fun i _ => 20 - (intOf i).toNat)
                  case atStart => exact ⟨0, by omega, rfl, HX.out, HK.out, HB.out⟩
                  case round =>
                    clear HX HK HB
                    obtain ⟨k3, hk3, rfl, hX, hK, hB⟩ := hrel
                    have HX := hide hX
                    have HK := hide hK
                    have HB := hide hB
                    clear hX hK hB
                    by_cases hlt3 : k3 < 20
                    · have HP := hide (HLS.out k3 hlt3)
                      have HA := hide (at_any HX.out (k3 : Int) (by omega) (by rw [HSL.out]; omega))
                      rw [Int.toNat_natCast] at HA
                      have HF1 := hide (flat2_fst L k3 (by rw [HLL.out]; exact hlt3))
                      have HF2 := hide (flat2_snd L k3 (by rw [HLL.out]; exact hlt3))
                      rw [HP.out] at HF1 HF2
                      generalize (S.getD k3 none).isSome = si at *
                      generalize plZ (S.getD k3 none) = z at *
                      obtain ⟨z1, z2⟩ := z
                      simp only at HA HF1 HF2
                      go_wp2_with fail
                      refine HA.out.mono ?_
                      rintro e w9 ⟨rfl, hb⟩
                      have HX9 := hide ((HX.out.below hb).below ((Below.refl _ _).alloc (Nat.le_refl _) (.cells #[.int .i64 z1, .int .i64 z2] 35)))
                      have HB9 := hide ((HB.out.trans (hb.mono HB.out.size)).alloc (Nat.le_trans HB.out.size hb.size) (.cells #[.int .i64 z1, .int .i64 z2] 35))
                      have HK9 := hide (((heap_old w9 (.cells #[.int .i64 z1, .int .i64 z2] 35) B (Nat.lt_of_lt_of_le (heap_lt HK.out) hb.size)).trans (hb.block B (heap_lt HK.out))).trans HK.out)
                      have HN9 := hide (heap_new w9 (.cells #[.int .i64 z1, .int .i64 z2] 35))
                      clear hb HX HB HK HA HP
                      go_wp2_with fail
                      generalize w9.alloc (.cells #[.int .i64 z1, .int .i64 z2] 35) = wb at *
                      generalize w9.heap.size = Bw at *
                      have c0 : wb.cell? ⟨Bw, 0, none⟩ = some (.int .i64 z1) := by rw [cell_of_block HN9.out]; rfl
                      have c1 : wb.cell? ⟨Bw, 1, none⟩ = some (.int .i64 z2) := by rw [cell_of_block HN9.out]; rfl
                      have d0 : wb.cell? ⟨B, k3 * 2, none⟩ = some (.int .i64 z1) := by rw [cell_of_block HK9.out]; simpa using HF1.out
                      have d1 : wb.cell? ⟨B, k3 * 2 + 1, none⟩ = some (.int .i64 z2) := by rw [cell_of_block HK9.out]; simpa using HF2.out
                      have hneq : ∀ W, (binOp .neq 35 (.agg #[.int .i64 z1, .int .i64 z2]) (.agg #[.int .i64 z1, .int .i64 z2])).run Try.prog W = .ok (.bool false) W := fun W => by rw [neq_place]; simp
                      have hgu := guard_place .neq
                      go_quiet (fail)
                      go_wp2
                      go_roundw
                      case rel => exact ⟨k3 + 1, by omega, by go_num, HX9.out.drewN _, HK9.out, HB9.out.drewN _⟩
                      case measure => simp [intOf]; omega
                    · obtain rfl : k3 = 20 := by omega
                      have HT := hide (total_any HX.out)
                      generalize total S = t at *
                      go_wp2_with fail
                      refine HT.out.mono ?_
                      rintro e w9 ⟨rfl, rfl⟩
                      go_wp2
                      go_ret
                      exact ⟨rfl, HB.out⟩
theorem whereBack_walk (v : Value) (kk : Int) (k0 : 0 ≤ kk) (k1 : kk ≤ 255) (ax : Int) (a0 : 0 ≤ ax) (a1 : ax ≤ 255) (w : World) (hv : ∃ zs : List Int, NumsAt w .u16 v zs ∧ (∀ z ∈ zs, (Lit.int .u16 z).wf = true) ∧ zs.length ≤ maxLen) :
    Calls Try.prog 6 #[v, .int .u8 kk, .int .u8 ax] w fun e w' => e = .returned (.bool true) ∧ Below w.heap.size w w' := by
  obtain ⟨zs, hz, hw, hm⟩ := hv
  obtain ⟨a, cap, rfl, hc, hat⟩ := nums_at hz
  unfold maxLen at hm
  by_cases h1 : zs.length ≤ 40
  · exact whereBack_few zs hw a cap hc (by omega) kk k0 k1 ax a0 a1 w hat h1
  · exact whereBack_big zs hw a cap hc (by omega) kk k0 k1 ax a0 a1 w hat (by omega)

set_option maxRecDepth 100000 in
theorem whereBack_lifted (os : Os) (started : os.Started) (H : Type) (enc : TypeId × Value → H) :
    ReturnsInHanded {} Try.checked os 6 .any (Rows.whereBackSpec.pre6 enc Try.prog Try.f6 Rows.whereBackRow.domain false) (Rows.whereBackSpec.post enc Try.prog Try.f6 false true false false) := by
  refine returnsInHanded_of_change (C := Try.checked) own started (by kernel_rfl) Try.func6
    (ChangeSpec.witness6 (enc := enc) (C := Try.checked) false ⟨#[], #[.slice none 0 0, .int .u8 0, .int .u8 0], []⟩ 8 (by kernel_rfl) (by kernel_rfl) (by kernel_rfl) (by kernel_rfl)) ?_
  intro W base args ds gs before hval0 hW _ _
  have hval : ∀ (j : Nat) t v, Try.f6.params[j]? = some t → args[j]? = some v → Value.okWide Try.prog W .any base t v := hval0
  have hW' := hW
  obtain ⟨p, q, hA0, hV, rfl, hfz, hnd⟩ := hW
  have hA : DataW.TrodAll enc Try.prog W 0 (fun _ => true) true Try.f6.params.toList args.toList ds p := hA0
  rw [Try.params6] at hA hval
  obtain ⟨v0, vs0, d0, ds0, p0, q0, hargs, rfl, rfl, h0, r0⟩ := trodAll_cons hA
  obtain ⟨v1, vs1, d1, ds1, p1, q1, rfl, rfl, rfl, h1, r1⟩ := trodAll_cons r0
  obtain ⟨v2, vs2, d2, ds2, p2, q2, rfl, rfl, rfl, h2, r2⟩ := trodAll_cons r1
  obtain ⟨rfl, rfl, rfl⟩ := trodAll_nil r2
  obtain rfl : args = #[v0, v1, v2] := by cases args; simp_all
  obtain ⟨rfl, rfl⟩ := trodVars_none hV
  have z0 := open_nums_slice Try.underlying53 Try.underlying54 (by kernel_rfl) (hval 0 53 v0 rfl rfl) h0
  obtain ⟨kk, rfl, rfl, rfl, w1⟩ := open_int Try.underlying5 (hval 1 5 v1 rfl rfl) h1
  have z1 := wf_u8 w1
  obtain ⟨ax, rfl, rfl, rfl, w2⟩ := open_int Try.underlying5 (hval 2 5 v2 rfl rfl) h2
  have z2 := wf_u8 w2
  clear hA0 hval0
  refine (whereBack_walk v0 kk z1.1 z1.2 ax z2.1 z2.2 W z0).mono fun e W' ⟨he, hb⟩ => ?_
  subst he
  exact ⟨_, rfl, post_law laidOut (of_decide_eq_true (by kernel_rfl)) rfl rfl Try.underlying4 hW' ⟨rfl, rfl, rfl⟩ hb⟩

/-- THE STATEMENT -/
theorem whereBack_holds : Rows.WhereBackSaid :=
  OpenClaim.holds_of_wide 6 Try.f6 rfl rfl rfl rfl rfl rfl rfl ⟨rfl, rfl, rfl, rfl, rfl⟩ rfl rfl rfl rfl rfl (by kernel_rfl) Try.func6 (by kernel_rfl)
    (of_decide_eq_true (by kernel_rfl)) (by unfold Func.isWrapper; first | (rw [if_pos (by decide +kernel)]; kernel_rfl) | (rw [if_neg (by decide +kernel)]; exact ⟨rfl, rfl⟩))
    (fun os started H enc _ => whereBack_lifted os started H enc)

end Go.Proofs.Ytfkilcpnjnmnmaa
