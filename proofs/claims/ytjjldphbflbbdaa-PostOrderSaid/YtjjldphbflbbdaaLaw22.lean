/-
  PostOrder: in whatever order its lines come, a posting may be, or not, for the same reason, and has on each account the same. No condition.
-/
import Derived.Test.YtjjldphbflbbdaaPost8
--import Derived.Test.Zdbg
namespace Go.Proofs.Ytjjldphbflbbdaa
set_option linter.unusedSimpArgs false
set_option linter.unusedVariables false
open Go.RowKit Go.WideShapes Go.ChangeShapes Go.ChangeAt Go.Deep

theorem ChartAt.grown {w w' : World} {p bm k B e m n : Nat} {v : Value} {xs : List Value} (h : ChartAt w p bm k) (ho : w.ownsRow B e m v n xs) (he : e ≠ 104) (hg : w.grownBy w' v.ownBlock) : ChartAt w' p bm k := by
  obtain ⟨c, f, h1, h2, h3⟩ := h.map
  refine ⟨(hg.block p (heap_lt h.head) (fun hq => ?_)).trans h.head, c, f, h1.kept (hg.block bm h1.lt (fun hq => ?_)), h2, h3⟩
  · obtain ⟨cq, fq, hcq⟩ := Go.Lib.ownsRow_kind ho p hq.symm
    rw [h.head] at hcq
    simp only [Option.some.injEq, Obj.cells.injEq] at hcq
    exact he hcq.2.1.symm
  · obtain ⟨cq, fq, hcq⟩ := Go.Lib.ownsRow_kind ho bm hq.symm
    exact map_noCells h1 _ _ _ hcq
theorem w64_in {n : Int} (h : -9223372036854775808 ≤ n ∧ n ≤ 9223372036854775807) : wrap64 n = n := by unfold wrap64; omega
def rotL (l : List LnM) (t k : Nat) : List LnM := (List.range k).map fun (i : Nat) => l.getD ((i + t) % l.length) ln0
theorem rotL_len (l : List LnM) (t k : Nat) : (rotL l t k).length = k := by simp [rotL]
theorem rotL_next (l : List LnM) (t k : Nat) : rotL l t (k + 1) = rotL l t k ++ [l.getD ((k + t) % l.length) ln0] := by simp [rotL, List.range_succ]
theorem rot_eq (l : List LnM) (t : Nat) (hn : 0 < l.length) : rotL l t l.length = l.drop (t % l.length) ++ l.take (t % l.length) := by
  have hr := Nat.mod_lt t hn
  unfold rotL
  apply List.ext_getElem
  · rw [List.length_map, List.length_range, List.length_append, List.length_drop, List.length_take]; omega
  · intro i h1' h2
    have h1 : i < l.length := by rw [List.length_map, List.length_range] at h1'; exact h1'
    rw [List.getElem_map, List.getElem_range, ← Nat.add_mod_mod]
    by_cases h3 : i + t % l.length < l.length
    · rw [Nat.mod_eq_of_lt h3, List.getElem_append_left (by rw [List.length_drop]; omega), List.getElem_drop]
      simp only [List.getD, List.getElem?_eq_getElem h3, Option.getD_some]
      congr 1
      omega
    · rw [Nat.mod_eq_sub_mod (by omega), Nat.mod_eq_of_lt (by omega), List.getElem_append_right (by rw [List.length_drop]; omega), List.getElem_take]
      simp only [List.getD, List.getElem?_eq_getElem (show i + t % l.length - l.length < l.length by omega), Option.getD_some]
      congr 1
      rw [List.length_drop]
      omega
theorem rot_parts (l : List LnM) (t : Nat) : ∃ A B : List LnM, l = A ++ B ∧ rotL l t l.length = B ++ A := by
  by_cases hn : 0 < l.length
  · exact ⟨l.take (t % l.length), l.drop (t % l.length), (List.take_append_drop _ _).symm, rot_eq l t hn⟩
  · have h0 : l = [] := List.eq_nil_of_length_eq_zero (by omega)
    subst h0
    exact ⟨[], [], rfl, rfl⟩
theorem wantN_append (g : LnM → Bool) (A B : List LnM) : wantN g (A ++ B) = wantN g A ++ wantN g B := by simp [wantN]
theorem rot_want (g : LnM → Bool) (l : List LnM) (t : Nat) : (wantN g (rotL l t l.length)).sum = (wantN g l).sum := by
  obtain ⟨A, B, h1, h2⟩ := rot_parts l t
  rw [h2, wantN_append]
  conv => rhs; rw [h1, wantN_append]
  rw [List.sum_append, List.sum_append, Int.add_comm]
theorem rot_any (g : LnM → Bool) (l : List LnM) (t : Nat) : (rotL l t l.length).any g = l.any g := by
  obtain ⟨A, B, h1, h2⟩ := rot_parts l t
  rw [h2, List.any_append]
  conv => rhs; rw [h1, List.any_append]
  rw [Bool.or_comm]
theorem rot_all (g : LnM → Bool) (l : List LnM) (t : Nat) : (rotL l t l.length).all g = l.all g := by
  obtain ⟨A, B, h1, h2⟩ := rot_parts l t
  rw [h2, List.all_append]
  conv => rhs; rw [h1, List.all_append]
  rw [Bool.and_comm]
theorem rot_mem (l : List LnM) (t : Nat) (x : LnM) (h : x ∈ rotL l t l.length) : x ∈ l := by
  obtain ⟨A, B, h1, h2⟩ := rot_parts l t
  rw [h2] at h
  rw [h1]
  rcases List.mem_append.1 h with h | h
  · exact List.mem_append.2 (.inr h)
  · exact List.mem_append.2 (.inl h)
theorem rot_chk (m : Nat) (l : List LnM) (t : Nat) : chkE m (rotL l t l.length) = chkE m l := by
  unfold chkE zeroIn knownL sumL
  have h1 := rot_want (fun _ => true) l t
  rw [wantN_all, wantN_all] at h1
  rw [rot_any, rot_all, h1, rotL_len]
set_option maxRecDepth 100000 in
set_option maxHeartbeats 400000 in
theorem postOrder_walk (L : List LnM) (a : Option Addr) (cap : Nat) (hcap : L.length ≤ cap) (h63 : L.length ≤ 9223372036854775807) (turn : Int) (t0 : 0 ≤ turn) (t1 : turn ≤ 255) (acct : Int) (a0 : -9223372036854775808 ≤ acct) (a1 : acct ≤ 9223372036854775807) (w : World) (hin : LnIn w a L) (hok : ∀ x ∈ L, LnOk x) :
    Calls Try.prog 6 #[.slice a L.length cap, .int .u8 turn, .int .i64 acct] w fun e w' => e = .returned (.bool true) ∧ Below w.heap.size w w' := by
  obtain ⟨tn, rfl⟩ : ∃ tn : Nat, (tn : Int) = turn := ⟨turn.toNat, by omega⟩
  obtain ⟨i0, hi, hz0, hz1, hz2⟩ := info_parts (show (Try.prog.info? 69).map (fun i => (i.zero, i.size, i.bytes)) = some (some (.agg #[.int .i64 0, .int .i64 0]), 2, 16) by kernel_rfl)
  have HI := hide hi
  have HZ0 := hide hz0
  have HZ1 := hide hz1
  have HZ2 := hide hz2
  obtain ⟨n, hn⟩ : ∃ n : Nat, min L.length 9 = n := ⟨_, rfl⟩
  have hmF : (if (9 : Int) < (L.length : Int) then (9 : Int) else (L.length : Int)) = (n : Int) := by split <;> omega
  have hmI : min (L.length : Int) 9 = (n : Int) := by omega
  have hn9 : n ≤ 9 := by omega
  have hnl : n ≤ L.length := by omega
  have hcI : (n : Int) ≤ (cap : Int) := by omega
  have HIN := hide (hin.take n)
  have HOK := hide (show ∀ x ∈ L.take n, LnOk x from fun x hx => hok x (List.mem_of_mem_take hx))
  have hll : (L.take n).length = n := by rw [List.length_take]; omega
  have HLL := hide hll
  have HT := hide (show (tn : Int) ≤ 255 from t1)
  generalize hl : L.take n = l at *
  clear hl hi hz0 hz1 hz2 hin hok hn hll t0 t1
  go_enter Try.func6, Try.ntmps6
  go_wp2_with fail
  refine (accounts_any _).mono ?_
  rintro e w1 ⟨p, bm, aa, cc, rfl, hc, -, hb⟩
  have C1 := hide hc
  have B1 := hide hb
  clear hc hb
  go_wp2_with fail
  go_loopw [9, 32] (fun s i W => ∃ (k : Nat) (a9 : Option Addr) (c9 : Nat), k ≤ n ∧ i = .int .i64 k ∧ s = .slice a9 k c9 ∧ W.ownsRow w.heap.size 69 2 (.slice a9 k c9) k ((rotL l tn k).flatMap lnC) ∧ ChartAt W p bm 5 ∧ Below w.heap.size w W) (fun s i _ => n - (intOf i).toNat)
  case atStart => exact ⟨0, none, 0, by omega, rfl, rfl, World.ownsRow_nil _ _ _ _, C1.out, B1.out⟩
  case round =>
    obtain ⟨k, a9, c9, hk, rfl, rfl, ho, hc, hb⟩ := hrel
    have OK := hide ho
    have CK := hide hc
    have BK := hide hb
    clear ho hc hb C1 B1
    by_cases hlt : k < n
    · obtain ⟨r, hr⟩ : ∃ r, (k + tn) % n = r := ⟨_, rfl⟩
      have hrn : r < n := hr ▸ Nat.mod_lt _ (by omega)
      have hri : ((k : Int) + (tn : Int)) % (n : Int) = (r : Int) := by rw [← hr, Int.natCast_emod, Int.natCast_add]
      have hn0 : ¬ (n : Int) = 0 := by omega
      have hz8 : wrap64 (tn : Int) = (tn : Int) := w64_in (by have := HT.out; clear hri; omega)
      have hz9 : wrap64 ((k : Int) + (tn : Int)) = (k : Int) + (tn : Int) := w64_in (by have := HT.out; clear hri; omega)
      have hrt : ((k : Int) + (tn : Int)).tmod (n : Int) = (r : Int) := (Int.tmod_eq_emod_of_nonneg (Int.add_nonneg (Int.natCast_nonneg k) (Int.natCast_nonneg tn))).trans hri
      obtain ⟨b, off, rfl, hbl, c0, c1⟩ := (HIN.out.below BK.out) r (by have := HLL.out; omega)
      have HTN := hide (rotL_next l tn k)
      rw [HLL.out, hr] at HTN
      generalize l.getD r ln0 = x at *
      obtain ⟨xc, xn⟩ := x
      dsimp only at *
      clear hr
      have HRI := hide hri
      clear hri
      have hal := (Below.refl wr.heap.size wr).alloc (Nat.le_refl _) (.cells #[.int .i64 xc, .int .i64 xn] 69)
      have XB := hide (heap_new wr (.cells #[.int .i64 xc, .int .i64 xn] 69))
      have O2 := hide (owns_below OK.out hal)
      have C2 := hide (CK.out.below hal)
      have B2 := hide (BK.out.alloc BK.out.size (.cells #[.int .i64 xc, .int .i64 xn] 69))
      have hw2 : w.heap.size ≤ (wr.alloc (.cells #[.int .i64 xc, .int .i64 xn] 69)).heap.size := B2.out.size
      clear hal OK CK BK
      go_wp2_with (at_builtin; clear hz8 hz9 hrt hrn hn0 hmF hmI; refine wpList_append_own2 _ rfl _ _ 22 rfl w.heap.size 69 i0 (.agg #[.int .i64 0, .int .i64 0]) 2 16 Try.underlying22 HI.out HZ0.out HZ1.out HZ2.out rfl (by decide) (.slice a9 k c9) k ((rotL l tn k).flatMap lnC) rfl O2.out ⟨wr.heap.size, 0, none⟩ 1 1 (by decide) (lnC ⟨xc, xn⟩) rfl rfl (cells_new XB.out) (lnC_one _) (by unfold maxLen; omega) (by omega) hw2 ?_; intro g3 c3' w3 ho hgr hnil; have O3 := hide ho; have B3 := hide (B2.out.grown hgr B2.out.size (fun jj h => (O2.out.lt jj h).1)); have C3 := hide (C2.out.grown O2.out (by decide) hgr); clear ho hgr hnil)
      go_roundw
      case rel => exact ⟨k + 1, _, _, by omega, by go_num, rfl, by rw [HTN.out, List.flatMap_append]; simpa using O3.out, C3.out, B3.out⟩
      case measure => simp [intOf]; omega
    · obtain rfl : n = k := by omega
      have HI1 := hide (HIN.out.below BK.out)
      have HLA := hide (fun W (hW : LnIn W a l) => show Calls Try.prog 9 #[.slice a n cap] W (LinesIs l n W) by
        have h1 := lines_any l a cap n (by rw [HLL.out]; omega) (by rw [HLL.out]; omega) W hW
        rw [HLL.out] at h1
        exact h1)
      have HRL := hide (show (rotL l tn n).length = n from rotL_len _ _ _)
      have HLB := hide (fun W (hW : LnIn W a9 (rotL l tn n)) => show Calls Try.prog 9 #[.slice a9 n c9] W (LinesIs (rotL l tn n) n W) by
        have h1 := lines_any (rotL l tn n) a9 c9 n (by rw [HRL.out]; omega) (by rw [HRL.out]; exact owns_cap OK.out) W hW
        rw [HRL.out] at h1
        exact h1)
      have QL := hide (LnIn.of_owns (L := rotL l tn n) (c := c9) (by rw [HRL.out]; exact OK.out))
      go_wp2_with fail
      refine (HLA.out _ HI1.out).mono ?_
      rintro e w2 ⟨u1, k1, u2, k2, rfl, hk1, -, hp, -, hb⟩
      have P2 := hide (show LnIn w2 u1 l by rw [List.take_of_length_le (by rw [HLL.out]; exact Nat.le_refl _)] at hp; exact hp)
      have Q2 := hide (QL.out.below hb)
      have C2 := hide (CK.out.below hb)
      have B2 := hide (BK.out.trans (hb.mono BK.out.size))
      clear hp hb QL CK BK OK HI1 HLA
      go_wp2_with fail
      refine (HLB.out _ Q2.out).mono ?_
      rintro e w3 ⟨u3, k3, u4, k4, rfl, hk3, -, hq, -, hb⟩
      have P3 := hide (P2.out.below hb)
      have Q3 := hide (show LnIn w3 u3 (rotL l tn n) by rw [List.take_of_length_le (by rw [HRL.out]; exact Nat.le_refl _)] at hq; exact hq)
      have C3 := hide (C2.out.below hb)
      have B3 := hide (B2.out.trans (hb.mono B2.out.size))
      clear hq hb P2 Q2 C2 B2 HLB
      have HRM := hide (show ∀ x ∈ rotL l tn n, LnOk x from fun x hx => HOK.out x (rot_mem l tn x (by rw [HLL.out]; exact hx)))
      have HSM := hide (fun (z : Int) => show (onL z (rotL l tn n)).sum = (onL z l).sum from by
        have h1 := rot_want (fun x => decide (x.c = z)) l tn
        rw [HLL.out] at h1
        exact h1)
      have HCH := hide (show chkE 5 (rotL l tn n) = chkE 5 l from by
        have h1 := rot_chk 5 l tn
        rw [HLL.out] at h1
        exact h1)
      generalize rotL l tn n = lq at *
      go_upto_region 12 with (fail)
      have hal := (Below.refl w3.heap.size w3).alloc (Nat.le_refl _) (.cells #[.int .i64 acct, .int .i64 1, .int .i64 2, .int .i64 3] 3)
      have X4 := hide (heap_new w3 (.cells #[.int .i64 acct, .int .i64 1, .int .i64 2, .int .i64 3] 3))
      have P4 := hide (P3.out.below hal)
      have Q4 := hide (Q3.out.below hal)
      have C4 := hide (C3.out.below hal)
      have B4 := hide (B3.out.trans (hal.mono B3.out.size))
      clear hal P3 Q3 C3 B3
      generalize w3.alloc (.cells #[.int .i64 acct, .int .i64 1, .int .i64 2, .int .i64 3] 3) = w4 at *
      generalize w3.heap.size = g4 at *
      go_loopw [62] (fun i W => ∃ j : Nat, j ≤ 4 ∧ i = .int .i64 j ∧ LnIn W u1 l ∧ LnIn W u3 lq ∧ ChartAt W p bm 5 ∧ W.heap[g4]? = some (.cells #[.int .i64 acct, .int .i64 1, .int .i64 2, .int .i64 3] 3 (0, 0)) ∧ Below w.heap.size w W) (fun i _ => 4 - (intOf i).toNat)
      case atStart => exact ⟨0, by omega, rfl, P4.out, Q4.out, C4.out, X4.out, B4.out⟩
      case round =>
        obtain ⟨j, hj, rfl, hp, hq, hc, hx, hb⟩ := hrel
        have P5 := hide hp
        have Q5 := hide hq
        have C5 := hide hc
        have X5 := hide hx
        have B5 := hide hb
        clear hp hq hc hx hb P4 Q4 C4 X4 B4
        by_cases hlt4 : j < 4
        · have cz := cell_of_block X5.out j
          obtain ⟨z, hz⟩ : ∃ z : Int, (#[Value.int .i64 acct, .int .i64 1, .int .i64 2, .int .i64 3] : Array Value)[j]? = some (.int .i64 z) := by
            have h0 : j = 0 ∨ j = 1 ∨ j = 2 ∨ j = 3 := by omega
            rcases h0 with rfl | rfl | rfl | rfl
            · exact ⟨acct, rfl⟩
            · exact ⟨1, rfl⟩
            · exact ⟨2, rfl⟩
            · exact ⟨3, rfl⟩
          rw [hz] at cz
          clear hz
          have HO := hide (pon_any z l (by have := HLL.out; omega) (fun x hx => (HOK.out x hx).2) u1 k1 wr P5.out)
          have HO2 := hide (fun W (hW : LnIn W u3 lq) => pon_any z lq (by have := HRL.out; omega) (fun x hx => (HRM.out x hx).2) u3 k3 W hW)
          rw [HSM.out z] at HO2
          rw [HLL.out] at HO
          rw [HRL.out] at HO2
          generalize (onL z l).sum = sz at *
          go_wp2_with fail
          refine HO.out.mono ?_
          rintro e w6 ⟨rfl, hb⟩
          have P6 := hide (P5.out.below hb)
          have Q6 := hide (Q5.out.below hb)
          have C6 := hide (C5.out.below hb)
          have X6 := hide ((hb.block _ (heap_lt X5.out)).trans X5.out)
          have B6 := hide (B5.out.trans (hb.mono B5.out.size))
          clear hb P5 Q5 C5 X5 B5 HO cz
          go_wp2_with fail
          refine (HO2.out _ Q6.out).mono ?_
          rintro e w7 ⟨rfl, hb⟩
          have P7 := hide (P6.out.below hb)
          have Q7 := hide (Q6.out.below hb)
          have C7 := hide (C6.out.below hb)
          have X7 := hide ((hb.block _ (heap_lt X6.out)).trans X6.out)
          have B7 := hide (B6.out.trans (hb.mono B6.out.size))
          clear hb P6 Q6 C6 X6 B6 HO2
          go_wp2_with fail
          go_roundw
          case rel => exact ⟨j + 1, by omega, by go_num, P7.out, Q7.out, C7.out, X7.out, B7.out⟩
          case measure => simp [intOf]; omega
        · obtain rfl : j = 4 := by omega
          rw [show ((4 : Nat) : Int) = 4 from rfl]
          go_wp2_with fail
          refine (wakes22 _).mono ?_
          rintro e w6 ⟨rfl, hb⟩
          have P6 := hide (P5.out.below hb)
          have Q6 := hide (Q5.out.below hb)
          have C6 := hide (C5.out.below hb)
          have B6 := hide (B5.out.trans (hb.mono B5.out.size))
          clear hb P5 Q5 C5 X5 B5
          have HK := hide (check_any p bm 5 l (by have := HLL.out; omega) HOK.out u1 k1 w6 P6.out C6.out)
          have HK2 := hide (fun W (hW : LnIn W u3 lq) (hC : ChartAt W p bm 5) => check_any p bm 5 lq (by have := HRL.out; omega) HRM.out u3 k3 W hW hC)
          rw [HCH.out] at HK2
          rw [HLL.out] at HK
          rw [HRL.out] at HK2
          generalize chkE 5 l = ce at *
          go_wp2_with fail
          refine HK.out.mono ?_
          rintro e w7 ⟨rfl, hb⟩
          have Q7 := hide (Q6.out.below hb)
          have C7 := hide (C6.out.below hb)
          have B7 := hide (B6.out.trans (hb.mono B6.out.size))
          clear hb P6 Q6 C6 B6 HK
          go_wp2_with fail
          refine (HK2.out _ Q7.out C7.out).mono ?_
          rintro e w8 ⟨rfl, hb⟩
          have B8 := hide (B7.out.trans (hb.mono B7.out.size))
          clear hb Q7 C7 B7 HK2
          go_wp2_with fail
          go_ret
          exact ⟨rfl, B8.out⟩

set_option maxRecDepth 100000 in
theorem postOrder_lifted (os : Os) (started : os.Started) (H : Type) (enc : TypeId × Value → H) :
    ReturnsInHanded {} Try.checked os 6 .any (Rows.postOrderSpec.pre6 enc Try.prog Try.f6 Rows.postOrderRow.domain false) (Rows.postOrderSpec.post enc Try.prog Try.f6 false true false false) := by
  refine returnsInHanded_of_change (C := Try.checked) own started (by kernel_rfl) Try.func6
    (ChangeSpec.witness6 (enc := enc) (C := Try.checked) false ⟨#[], #[.slice none 0 0, .int .u8 0, .int .i64 0], []⟩ 8 (by kernel_rfl) (by kernel_rfl) (by kernel_rfl) (by kernel_rfl)) ?_
  intro W base args ds gs before hval0 hW _ _
  have hval : ∀ (j : Nat) t v, Try.f6.params[j]? = some t → args[j]? = some v → Value.okWide Try.prog W .any base t v := hval0
  have hW' := hW
  obtain ⟨p, q, hA0, hV, rfl, hfz, hnd⟩ := hW
  have hA : DataW.TrodAll enc Try.prog W 0 (fun _ => true) true Try.f6.params.toList args.toList ds p := hA0
  rw [Try.params6] at hA hval
  obtain ⟨v0, vs0, d0, ds0, p0, q0, hargs, rfl, rfl, h0, r0⟩ := trodAll_cons hA
  obtain ⟨v1, vs1, d1, ds1, p1, q1, rfl, rfl, rfl, h1, r1⟩ := trodAll_cons r0
  obtain ⟨v2, vs2, d2, ds2, p2, q2, rfl, rfl, rfl, h2, r2⟩ := trodAll_cons r1
  obtain ⟨rfl, rfl, rfl⟩ := trodAll_nil r2
  obtain rfl : args = #[v0, v1, v2] := by cases args; simp_all
  obtain ⟨rfl, rfl⟩ := trodVars_none hV
  obtain ⟨a, L, cap, rfl, hc, h63, hin, hok⟩ := open_lines (hval 0 22 v0 rfl rfl) h0
  obtain ⟨turn, rfl, rfl, rfl, w1⟩ := open_int Try.underlying5 (hval 1 5 v1 rfl rfl) h1
  have z1 := wf_u8 w1
  obtain ⟨account, rfl, rfl, rfl, w2⟩ := open_int Try.underlying3 (hval 2 3 v2 rfl rfl) h2
  have z2 := wf_i64 w2
  clear hA0 hval0
  refine (postOrder_walk L a cap hc h63 turn z1.1 z1.2 account z2.1 z2.2 W hin hok).mono fun e W' ⟨he, hb⟩ => ?_
  subst he
  exact ⟨_, rfl, post_law laidOut (of_decide_eq_true (by kernel_rfl)) rfl rfl Try.underlying4 hW' ⟨rfl, rfl, rfl⟩ hb⟩

/-- THE STATEMENT -/
theorem postOrder_holds : Rows.PostOrderSaid :=
  OpenClaim.holds_of_wide 6 Try.f6 rfl rfl rfl rfl rfl rfl rfl ⟨rfl, rfl, rfl, rfl, rfl⟩ rfl rfl rfl rfl rfl (by kernel_rfl) Try.func6 (by kernel_rfl)
    (of_decide_eq_true (by kernel_rfl)) (by unfold Func.isWrapper; first | (rw [if_pos (by decide +kernel)]; kernel_rfl) | (rw [if_neg (by decide +kernel)]; exact ⟨rfl, rfl⟩))
    (fun os started H enc _ => postOrder_lifted os started H enc)


end Go.Proofs.Ytjjldphbflbbdaa
