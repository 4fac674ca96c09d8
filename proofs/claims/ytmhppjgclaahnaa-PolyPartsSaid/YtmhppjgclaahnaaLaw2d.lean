/-
  Layer 2: PolyTells.
-/
import Derived.Test.YtmhppjgclaahnaaLaw2
import Derived.Test.YtmhppjgclaahnaaM2t
import Derived.Lib.ConvBytes
import Derived.Deep.Cut
import Derived.Deep.CutBlock
namespace Go.Proofs.Ytmhppjgclaahnaa
set_option linter.unusedSimpArgs false
set_option linter.unusedVariables false
open Go.RowKit Go.WideShapes Go.ChangeShapes Go.ChangeAt

/-- a byte slice of a text, as it lies: the bytes, then noughts -/
def rowC (l : List UInt8) (z : Nat) : Array Value := (l.map fun (b : UInt8) => Value.int .u8 (b.toNat : Int)).toArray ++ Array.replicate z (.int .u8 0)
theorem rowC_size (l : List UInt8) (z : Nat) : (rowC l z).size = l.length + z := by simp [rowC]
theorem rowC_at (l : List UInt8) (z i : Nat) (h : i < l.length) : (rowC l z)[i]? = some (.int .u8 ((l.getD i 0).toNat : Int)) := by
  unfold rowC
  rw [Array.getElem?_append_left (by simpa using h)]
  simp [List.getD, h]
theorem rowC_set (l : List UInt8) (z i : Nat) (h : i < l.length) (x : UInt8) : (rowC l z).setIfInBounds i (.int .u8 (x.toNat : Int)) = rowC (l.set i x) z := by
  unfold rowC
  rw [Array.setIfInBounds_append_left (by simpa using h)]
  congr 1
  simp [List.map_set]
/-- []byte(s): a new block that holds them -/
theorem conv_text (w : World) (s : ByteArray) : ∃ (z : Nat) (w' : World), (convert 9 36 (.string s)).run Try.prog w = .ok (.slice (some ⟨w.heap.size, 0, none⟩) s.size (s.size + z)) w' ∧
    Below w.heap.size w w' ∧ w'.heap.size = w.heap.size + 1 ∧ w'.heap[w.heap.size]? = some (.cells (rowC s.data.toList z) 5 (s.size + z, s.size + z + 1)) := by
  have hg := grownCap_ge w s.size 0 5
  have hc : Lib.bytesCells w 5 s = rowC s.data.toList (grownCap w s.size 0 5 - s.size) := by
    unfold Lib.bytesCells rowC
    congr 1
    apply Array.ext'
    simp
  have hz : (Lib.bytesCells w 5 s).size = s.size + (grownCap w s.size 0 5 - s.size) := by rw [hc, rowC_size, size_list]
  refine ⟨grownCap w s.size 0 5 - s.size, Lib.bytesWorld w 5 s, ?_, ⟨rfl, rfl, rfl, by rw [Lib.bytesWorld_size]; omega, fun k hk => Lib.bytesWorld_at_old w _ s k hk⟩, Lib.bytesWorld_size _ _ _, ?_⟩
  · rw [Lib.run_convert_string_bytes w 9 36 5 s Try.underlying9 Try.underlying36 Try.underlying5, show s.size + (grownCap w s.size 0 5 - s.size) = grownCap w s.size 0 5 by omega]
  · rw [Lib.bytesWorld_at_new, hz, hc]

theorem and_one (V k : Nat) (hV : V < 4294967296) : bits .and .u32 ((V : Int) / 2 ^ k) 1 = ((V / 2 ^ k % 2 : Nat) : Int) := by
  have e : (V : Int) / 2 ^ k = ((V / 2 ^ k : Nat) : Int) := by push_cast; rfl
  have hle : V / 2 ^ k ≤ V := Nat.div_le_self _ _
  have h := (bits_nat .u32 32 (by decide) wraps_u32 (V / 2 ^ k) 1 (by omega) (by omega)).1
  rw [e]
  have e1 : ((1 : Nat) : Int) = 1 := rfl
  rw [e1] at h
  rw [h, Nat.and_one_is_mod]
theorem bit_test (V k : Nat) (h : V.testBit k = false) (hV : V < 4294967296) : (bits .and .u32 ((V : Int) / 2 ^ k) 1 == 1) = false := by
  rw [and_one V k hV]
  rw [Nat.testBit_eq_decide_div_mod_eq] at h
  have h' := of_decide_eq_false h
  generalize V / 2 ^ k % 2 = m at h'
  exact beq_eq_false_iff_ne.2 (by omega)
theorem bit_test' (V k : Nat) (h : V.testBit k = true) (hV : V < 4294967296) : (bits .and .u32 ((V : Int) / 2 ^ k) 1 == 1) = true := by
  rw [and_one V k hV]
  rw [Nat.testBit_eq_decide_div_mod_eq] at h
  have h' := of_decide_eq_true h
  rw [h']
  rfl
theorem flip_eq (x : UInt8) (q : Nat) (hq : q < 8) : bits .xor .u8 (x.toNat : Int) (128 / 2 ^ q) = ((flipU x q).toNat : Int) := by
  have hx := x.toNat_lt
  have e : (128 : Int) / 2 ^ q = ((128 / 2 ^ q : Nat) : Int) := by push_cast; rfl
  have hle : 128 / 2 ^ q ≤ 128 := Nat.div_le_self _ _
  rw [e, u8_xor_nat _ _ (by omega) (by omega)]
  unfold flipU
  rw [UInt8.toNat_xor]
  obtain rfl | rfl | rfl | rfl | rfl | rfl | rfl | rfl : q = 0 ∨ q = 1 ∨ q = 2 ∨ q = 3 ∨ q = 4 ∨ q = 5 ∨ q = 6 ∨ q = 7 := by omega
  all_goals rfl
theorem tells_c (S : ByteArray) (F V : Nat) (hF : F + 32 ≤ 8 * S.size) (hV : V < 4294967296) (h0 : V ≠ 0) : ((cN (turned S.data.toList F V 32) : Int) != (cN S.data.toList : Int)) = true := by
  have h := tells S.data.toList F V (by rw [size_list]; exact hF) (by omega) h0 firstS
  have hm : mN firstS (turned S.data.toList F V 32) ≠ mN firstS S.data.toList := by
    rw [mN_def, mN_def]
    exact fun e => h (BitVec.eq_of_toNat_eq e)
  have a := mN_lt firstS (turned S.data.toList F V 32)
  have b := mN_lt firstS S.data.toList
  rw [bne_iff_ne]
  unfold cN
  omega
theorem turned_no (l : List UInt8) (f v k : Nat) (h : v.testBit k = false) : turned l f v (k + 1) = turned l f v k := by simp [turned, h]
theorem turned_yes (l : List UInt8) (f v k : Nat) (h : v.testBit k = true) : turned l f v (k + 1) = (turned l f v k).set ((f + k) / 8) (flipU ((turned l f v k).getD ((f + k) / 8) 0) ((f + k) % 8)) := by simp [turned, h, flipAt]

set_option maxRecDepth 20000 in
set_option maxHeartbeats 1000000 in
theorem polyTells_walk (s : ByteArray) (hs : s.size ≤ 9223372036854775807) (at_ : Int) (at0 : 0 ≤ at_) (at1 : at_ ≤ 65535) (v : Int) (v0 : 0 ≤ v) (v1 : v ≤ 4294967295) (w : World) :
    Calls Try.prog 6 #[.string s, .int .u16 at_, .int .u32 v] w fun e w' => e = .returned (.bool true) ∧ Below w.heap.size w w' := by
  have z := (zero_of_info tab_zero).1
  have hsz := tabC_size 256
  have hst := tab_store
  obtain ⟨V, rfl⟩ := Int.eq_ofNat_of_zero_le v0
  obtain ⟨A, rfl⟩ := Int.eq_ofNat_of_zero_le at0
  by_cases hbig : 400 < s.size
  all_goals
    go_enter Try.func6, Try.ntmps6
    go_upto_region 2 with (fail)
    first
      | (have hS : s.size ≤ 400 := by omega
         rename ByteArray => S)
      | (have hS : (s.extract 0 400).size ≤ 400 := by simp; omega
         generalize s.extract 0 400 = S at hS ⊢)
    by_cases h5 : S.size < 5
    · go_wp2_with (first | (go_at_call 13; ((with_reducible refine (wakes2 _).mono ?_); rintro e w0 ⟨rfl, hb0⟩)))
      go_ret
      exact ⟨rfl, by repeat (first | (with_reducible assumption) | (refine below_trans (by assumption) ?_))⟩
    · have h5' : 5 ≤ S.size := by omega
      by_cases hV : V = 0
      · subst hV
        go_wp2_with (first | (go_at_call 13; ((with_reducible refine (wakes2 _).mono ?_); rintro e w0 ⟨rfl, hb0⟩)))
        go_ret
        exact ⟨rfl, by repeat (first | (with_reducible assumption) | (refine below_trans (by assumption) ?_))⟩
      · have hV' : ((V : Int) == 0) = false := by simpa using hV
        go_wp2_with (first | (go_at_call 13; ((with_reducible refine (wakes2 _).mono ?_); rintro e w0 ⟨rfl, hb0⟩; obtain ⟨zz, w9, hcv, hb9, hz9, hrow⟩ := conv_text w0 S)))
        have hf0 : ((A : Int) % (8 * ((S.size : Int) - 4))) = ((A % (8 * (S.size - 4)) : Nat) : Int) := by
          rw [Int.natCast_emod]; congr 1; omega
        rw [hf0]
        have hF : A % (8 * (S.size - 4)) + 32 ≤ 8 * S.size := by have := Nat.mod_lt A (show 0 < 8 * (S.size - 4) by omega); omega
        clear hf0
        generalize A % (8 * (S.size - 4)) = F at hF ⊢
        have hb9' := hide hb9
        have hrow' := hide hrow
        clear hrow hcv
        go_loopw [37] (fun i wr => ∃ k : Nat, k ≤ 32 ∧ i = .int .i64 k ∧ Below w0.heap.size w0 wr ∧ wr.heap[w0.heap.size]? = some (.cells (rowC (turned S.data.toList F V k) zz) 5 (S.size + zz, S.size + zz + 1))) (fun i _ => 32 - (intOf i).toNat)
        case atStart => exact ⟨0, by omega, rfl, hb9, hrow'.out⟩
        case round =>
          obtain ⟨k, hk, rfl, hbk, hrk⟩ := hrel
          by_cases hlt : k < 32
          · have hrk' := hide hrk
            clear hrk
            cases hbit : V.testBit k
            · have hB := bit_test V k hbit (by omega)
              have hturn := hide (turned_no S.data.toList F V k hbit)
              clear hbit
              go_wp2
              go_roundw
              case rel => exact ⟨k + 1, by omega, by go_num, hbk, by rw [hturn.out]; exact hrk'.out⟩
              case measure => simp [intOf]; omega
            · have hB := bit_test' V k hbit (by omega)
              have hturn := hide (turned_yes S.data.toList F V k hbit)
              clear hbit
              have hp8 : (F + k) / 8 < (turned S.data.toList F V k).length := by rw [turned_length, size_list]; omega
              have hc0 := cell_of_block hrk'.out ((F + k) / 8)
              rw [rowC_at _ _ _ hp8] at hc0
              have hset := hide (rowC_set (turned S.data.toList F V k) zz ((F + k) / 8) hp8)
              generalize (turned S.data.toList F V k).getD ((F + k) / 8) 0 = x at hc0 hturn hset
              have hfr : wr.frozen? ⟨w0.heap.size, (F + k) / 8, none⟩ = false := by
                have := hrk'.out
                simp only [World.frozen?, this]
                simp
                omega
              have q0 : 0 ≤ ((F : Int) + (k : Int)) / 8 := by omega
              have q1 : ((F : Int) + (k : Int)) / 8 < (S.size : Int) := by omega
              have q2 : (((F : Int) + (k : Int)) / 8).toNat = (F + k) / 8 := by omega
              have q3 : IntKind.i64.wrap ((F : Int) + (k : Int)) = (F : Int) + (k : Int) := IntWalk.i64_in _ (by omega)
              have q4 : 0 ≤ ((F : Int) + (k : Int)) % 8 := by omega
              have q5 : (((F : Int) + (k : Int)) % 8).toNat = (F + k) % 8 := by omega
              go_wp2
              go_region
              go_wp2
              go_roundw
              case rel =>
                refine ⟨k + 1, by omega, by go_num, (Below.setCell hbk (by simp) _).drew, ?_⟩
                show (wr.setCell _ _).heap[_]? = _
                rw [block_setCell hrk'.out, flip_eq x _ (Nat.mod_lt _ (by omega)), hset.out, hturn.out]
              case measure => simp [intOf]; omega
          · obtain rfl : k = 32 := by omega
            have hrk' := hide hrk
            have hne := hide (tells_c S F V hF (by omega) hV)
            have hlB : w0.heap.size < wr.heap.size := Nat.lt_of_lt_of_le (by omega) (show w9.heap.size ≤ wr.heap.size from by
              rcases Nat.lt_or_ge w0.heap.size wr.heap.size with h | h
              · omega
              · have := hrk'.out; rw [Array.getElem?_eq_none (by omega)] at this; cases this)
            clear hrk
            go_wp2_with (first | (go_at_call 12; ((with_reducible refine (make_any _).mono ?_); rintro e w1 ⟨rfl, hb1⟩; have hcv2 := conv_bytes (w1.alloc (.cells (tabC 256) 24)) w0.heap.size 0 S.size (S.size + zz) (turned S.data.toList F V 32) (by rw [turned_length, size_list]) (fun i hi => by rw [Nat.zero_add, World.cell?_alloc_past _ _ _ (Nat.lt_of_lt_of_le hlB hb1.size), hb1.cell (p := ⟨w0.heap.size, i, none⟩) hlB, cell_of_block hrk'.out, rowC_at _ _ _ (by rw [turned_length, size_list]; exact hi)]))) | (go_at_call 14; ((with_reducible refine (sum_any _ _ (bs (turned S.data.toList F V 32)) (by rw [bs_size, turned_length, size_list]; omega) _ (tabAt_new _)).mono ?_); rintro e w2 ⟨rfl, n, rfl⟩)) | (go_at_call 14; ((with_reducible refine (sum_any _ _ S (by omega) _ (tabAt_drewN (tabAt_new _) _)).mono ?_); rintro e w2 ⟨rfl, n2, rfl⟩)))
            go_ret
            exact ⟨ret_bool hne.out, below_drewN' (below_trans hb0 (hbk.trans ((hb1.alloc hb1.size _).mono hbk.size))) _⟩

set_option maxRecDepth 100000 in
theorem polyTells_lifted (os : Os) (started : os.Started) (H : Type) (enc : TypeId × Value → H) :
    ReturnsInHanded {} Try.checked os 6 .any (Rows.polyTellsSpec.pre6 enc Try.prog Try.f6 Rows.polyTellsRow.domain false) (Rows.polyTellsSpec.post enc Try.prog Try.f6 false true false false) := by
  refine returnsInHanded_of_change (C := Try.checked) own started (by kernel_rfl) Try.func6
    (ChangeSpec.witness6 (enc := enc) (C := Try.checked) false ⟨#[], #[.string ⟨#[]⟩, .int .u16 0, .int .u32 0], []⟩ 8 (by kernel_rfl) (by kernel_rfl) (by kernel_rfl) (by kernel_rfl)) ?_
  intro W base args ds gs before hval0 hW _ _
  have hval : ∀ (j : Nat) t v, Try.f6.params[j]? = some t → args[j]? = some v → Value.okWide Try.prog W .any base t v := hval0
  have hW' := hW
  obtain ⟨p, q, hA0, hV, rfl, hfz, hnd⟩ := hW
  have hA : DataW.TrodAll enc Try.prog W 0 (fun _ => true) true Try.f6.params.toList args.toList ds p := hA0
  rw [Try.params6] at hA hval
  obtain ⟨v0, vs0, d0, ds0, p0, q0, hargs, rfl, rfl, h0, r0⟩ := trodAll_cons hA
  obtain ⟨v1, vs1, d1, ds1, p1, q1, rfl, rfl, rfl, h1, r1⟩ := trodAll_cons r0
  obtain ⟨v2, vs2, d2, ds2, p2, q2, rfl, rfl, rfl, h2, r2⟩ := trodAll_cons r1
  obtain ⟨rfl, rfl, rfl⟩ := trodAll_nil r2
  obtain rfl : args = #[v0, v1, v2] := by cases args; simp_all
  obtain ⟨rfl, rfl⟩ := trodVars_none hV
  obtain ⟨s, rfl, rfl, rfl, w0⟩ := ChangeMaps.open_string Try.underlying9 (hval 0 9 v0 rfl rfl) h0
  have z0 : s.size ≤ 9223372036854775807 := w0
  obtain ⟨a, rfl, rfl, rfl, w1⟩ := open_int Try.underlying39 (hval 1 39 v1 rfl rfl) h1
  have z1 := wf_u16 w1
  obtain ⟨v, rfl, rfl, rfl, w2⟩ := open_int Try.underlying22 (hval 2 22 v2 rfl rfl) h2
  have z2 := wf_u32 w2
  clear hA0 hval0
  refine (polyTells_walk s z0 a z1.1 z1.2 v z2.1 z2.2 W).mono fun e W' ⟨he, hb⟩ => ?_
  subst he
  exact ⟨_, rfl, post_law laidOut (of_decide_eq_true (by kernel_rfl)) rfl rfl Try.underlying4 hW' ⟨rfl, rfl, rfl⟩ hb⟩

/-- THE STATEMENT -/
theorem polyTells_holds : Rows.PolyTellsSaid :=
  OpenClaim.holds_of_wide 6 Try.f6 rfl rfl rfl rfl rfl rfl rfl ⟨rfl, rfl, rfl, rfl, rfl⟩ rfl rfl rfl rfl rfl (by kernel_rfl) Try.func6 (by kernel_rfl)
    (of_decide_eq_true (by kernel_rfl)) (by unfold Func.isWrapper; first | (rw [if_pos (by decide +kernel)]; kernel_rfl) | (rw [if_neg (by decide +kernel)]; exact ⟨rfl, rfl⟩))
    (fun os started H enc _ => polyTells_lifted os started H enc)

end Go.Proofs.Ytmhppjgclaahnaa
