/-
  Layer 21: wakes; accounts compared; charts of codes alone.
-/
import Derived.Test.YtehjhldijhoeeaaChart4

namespace Go.Proofs.Ytehjhldijhoeeaa
set_option linter.unusedSimpArgs false
set_option linter.unusedVariables false
open Go.RowKit Go.WideShapes Go.ChangeShapes Go.ChangeAt Go.Deep
theorem fieldsAc : fdesc (Try.prog.fieldsOf 31).toList = [("Code", 3, 0), ("Kind", 29, 1), ("Name", 9, 2)] := by kernel_rfl
theorem eq_acc (c k c' k' : Int) (s s' : ByteArray) (w : World) : (Op.equalIn 10000 31 (.agg #[.int .i64 c, .int .u8 k, .string s]) (.agg #[.int .i64 c', .int .u8 k', .string s'])).run Try.prog w =
    .ok (c == c' && (k == k' && (s.toList == s'.toList && true))) w := by
  rw [run_equalIn_agg w 9999 31 _ _ (by kernel_rfl) (by kernel_rfl)]
  exact eqF_cons w _ _ _ fieldsAc (by decide) (by kernel_rfl) (by kernel_rfl) (run_equalIn_int w 9998 3 .i64 .i64 _ _ Try.underlying3) fun l h =>
    eqF_cons w _ _ _ h (by decide) (by kernel_rfl) (by kernel_rfl) (run_equalIn_int w 9998 29 .u8 .u8 _ _ Try.underlying29) fun l h =>
    eqF_cons w _ _ _ h (by decide) (by kernel_rfl) (by kernel_rfl) (run_equalIn_string w 9998 9 _ _ Try.underlying9) fun l h => eqF_nil w _ _ _ h
theorem neq_acc (c k c' k' : Int) (s s' : ByteArray) (w : World) : (binOp .neq 31 (.agg #[.int .i64 c, .int .u8 k, .string s]) (.agg #[.int .i64 c', .int .u8 k', .string s'])).run Try.prog w = .ok (.bool (!(c == c' && (k == k' && s.toList == s'.toList)))) w := by
  rw [run_neq_struct, eq_acc]
  simp
/-- the same account is not unlike itself -/
theorem neq_same (c k : Int) (s : ByteArray) (w : World) : (binOp .neq 31 (.agg #[.int .i64 c, .int .u8 k, .string s]) (.agg #[.int .i64 c, .int .u8 k, .string s])).run Try.prog w = .ok (.bool false) w := by
  rw [neq_acc]
  simp
/-- an account of a code alone -/
def nA (k : Int) : AcM := ⟨k, 3, ⟨#[110]⟩⟩
theorem nA_right {k : Int} (h : 1 ≤ k ∧ k ≤ 65535) : rightB (nA k) = true := by
  unfold rightB nA
  dsimp only
  rw [show (ByteArray.mk #[110]).data.toList.all signB = true by decide +kernel, Bool.true_and]
  exact decide_eq_true ⟨h.1, h.2, by decide, by decide, by decide, by decide⟩
theorem nA_ok {k : Int} (h : 1 ≤ k ∧ k ≤ 65535) : AcOk (nA k) := ⟨⟨by show _ ≤ k; omega, by show k ≤ _; omega⟩, by show (0:Int) ≤ 3 ∧ (3:Int) ≤ 255; decide, by show 1 ≤ _; decide⟩
def allA (L : List Int) : List AcM := L.foldl (fun M k => insA M (nA k)) []
theorem allA_next (L : List Int) (k : Int) : allA (L ++ [k]) = insA (allA L) (nA k) := by unfold allA; rw [List.foldl_append]; rfl
structure AllIs (L : List Int) : Prop where
  rises : RisesA (allA L)
  mem : ∀ x, x ∈ allA L ↔ x.code ∈ L ∧ x = nA x.code
  len : (allA L).length = L.length
theorem all_none {L : List Int} (h : AllIs L) {k : Int} (hk : k ∉ L) : getA (allA L) k = none := by
  rw [getA_none]
  intro x hx e
  exact hk (e ▸ ((h.mem x).1 hx).1)
theorem all_next {L : List Int} (h : AllIs L) {k : Int} (hk : k ∉ L) : AllIs (L ++ [k]) := by
  have hn : getA (allA L) (nA k).code = none := all_none h hk
  refine ⟨by rw [allA_next]; exact insA_rises h.rises hn, fun x => ?_, by rw [allA_next, insA_length, h.len, List.length_append]; rfl⟩
  rw [allA_next, insA_mem, h.mem, List.mem_append, List.mem_singleton]
  constructor
  · rintro (rfl | ⟨h1, h2⟩)
    · exact ⟨.inr rfl, rfl⟩
    · exact ⟨.inl h1, h2⟩
  · rintro ⟨h1 | h1, h2⟩
    · exact .inr ⟨h1, h2⟩
    · exact .inl (by rw [h2, h1])
theorem all_nil : AllIs [] := ⟨List.Pairwise.nil, fun x => by simp [allA], rfl⟩
theorem all_take {N : List Int} (hn : N.Nodup) : ∀ i, i ≤ N.length → AllIs (N.take i) := by
  intro i
  induction i with
  | zero => intro _; rw [List.take_zero]; exact all_nil
  | succ i ih =>
    intro hi
    rw [List.take_succ_eq_append_getElem (by omega)]
    refine all_next (ih (by omega)) fun hm => ?_
    obtain ⟨j, hj, e⟩ := List.getElem_of_mem hm
    rw [List.length_take] at hj
    rw [List.getElem_take] at e
    exact absurd e (List.pairwise_iff_getElem.1 hn j i (by omega) (by omega) (by omega))
theorem all_adds {L : List Int} (h : AllIs L) {k : Int} (hk : k ∉ L) (h1 : 1 ≤ k ∧ k ≤ 65535) (hl : L.length < 64) : addE (allA L) (nA k) = 0 ∧ addM (allA L) (nA k) = allA (L ++ [k]) := by
  have hg : getA (allA L) (nA k).code = none := all_none h hk
  have he : addE (allA L) (nA k) = 0 := by
    unfold addE
    rw [if_neg (by rw [nA_right h1]; decide), hg, if_neg (by decide), if_neg (by rw [h.len]; omega)]
  exact ⟨he, by unfold addM; rw [if_pos he, allA_next]⟩
theorem rises_eq {M M' : List AcM} (h : RisesA M) (h' : RisesA M') (hm : ∀ x, x ∈ M ↔ x ∈ M') : M = M' := by
  have nd : ∀ {L : List AcM}, RisesA L → L.Nodup := fun hL => List.Pairwise.imp (fun h e => by subst e; omega) hL
  refine List.Perm.eq_of_pairwise (le := fun a b : AcM => a.code < b.code) (fun a b _ _ h1 h2 => ?_) h h' ((List.perm_ext_iff_of_nodup (nd h) (nd h')).2 hm)
  omega
theorem all_eq {L L' : List Int} (h : AllIs L) (h' : AllIs L') (hm : ∀ x, x ∈ L ↔ x ∈ L') : allA L = allA L' :=
  rises_eq h.rises h'.rises fun x => by rw [h.mem, h'.mem, hm]
def rotN (l : List Int) (t k : Nat) : List Int := (List.range k).map fun (i : Nat) => l.getD ((i + t) % l.length) 0
theorem rotN_len (l : List Int) (t k : Nat) : (rotN l t k).length = k := by simp [rotN]
theorem rotN_next (l : List Int) (t k : Nat) : rotN l t (k + 1) = rotN l t k ++ [l.getD ((k + t) % l.length) 0] := by simp [rotN, List.range_succ]
theorem rotN_take (l : List Int) (t k m : Nat) (h : k ≤ m) : (rotN l t m).take k = rotN l t k := by
  unfold rotN
  rw [← List.map_take, List.take_range, Nat.min_eq_left h]
theorem rotN_eq (l : List Int) (t : Nat) (hn : 0 < l.length) : rotN l t l.length = l.drop (t % l.length) ++ l.take (t % l.length) := by
  have hr := Nat.mod_lt t hn
  unfold rotN
  apply List.ext_getElem
  · rw [List.length_map, List.length_range, List.length_append, List.length_drop, List.length_take]; omega
  · intro i h1' h2
    have h1 : i < l.length := by rw [List.length_map, List.length_range] at h1'; exact h1'
    rw [List.getElem_map, List.getElem_range, ← Nat.add_mod_mod]
    by_cases h3 : i + t % l.length < l.length
    · rw [Nat.mod_eq_of_lt h3, List.getElem_append_left (by rw [List.length_drop]; omega), List.getElem_drop]
      simp only [List.getD, List.getElem?_eq_getElem h3, Option.getD_some]
      congr 1
      omega
    · rw [Nat.mod_eq_sub_mod (by omega), Nat.mod_eq_of_lt (by omega), List.getElem_append_right (by rw [List.length_drop]; omega), List.getElem_take]
      simp only [List.getD, List.getElem?_eq_getElem (show i + t % l.length - l.length < l.length by omega), Option.getD_some]
      congr 1
      rw [List.length_drop]
      omega
theorem rotN_perm (l : List Int) (t : Nat) : (rotN l t l.length).Perm l := by
  by_cases hn : 0 < l.length
  · rw [rotN_eq l t hn]
    exact List.perm_append_comm.trans (by rw [List.take_append_drop])
  · have h0 : l = [] := List.eq_nil_of_length_eq_zero (by omega)
    subst h0
    exact List.Perm.refl _
def cashA : AcM := ⟨10, 1, ⟨#[67, 97, 115, 104]⟩⟩
theorem cash_add : addE [] cashA = 0 ∧ addM [] cashA = [cashA] := ⟨by decide +kernel, by unfold addM; rw [if_pos (by decide +kernel)]; rfl⟩
theorem zero_add : addE [cashA] ac0 = 2 ∧ addM [cashA] ac0 = [cashA] := by
  have h : addE [cashA] ac0 = 2 := by decide +kernel
  exact ⟨h, addM_no (by rw [h]; decide)⟩
set_option maxRecDepth 100000 in
set_option maxHeartbeats 1000000 in
theorem wakes21 (w : World) : Calls Try.prog 7 #[] w fun e w' => e = .returned (.bool true) ∧ Below w.heap.size w w' := by
  have H1 := hide (fun p bm W hW => chadd_any p bm [] cashA ⟨by decide, by decide, by decide⟩ W hW)
  have H2 := hide (fun p bm W hW => chadd_any p bm [cashA] ac0 ⟨by decide, by decide, by decide⟩ W hW)
  have H3 := hide (fun p bm W hW => chget_any p bm [cashA] 10 (by unfold in64; decide) W hW)
  have H4 := hide (fun p bm W hW => chlist_any p bm [cashA] W hW)
  rw [cash_add.1, cash_add.2] at H1
  rw [zero_add.1, zero_add.2] at H2
  rw [show getV [cashA] 10 = cashA from rfl, show getA [cashA] 10 = some cashA from rfl] at H3
  unfold acV cashA at H1
  unfold acV ac0 at H2
  unfold acV at H3
  rw [show cashA.code = 10 from rfl, show cashA.kind = 1 from rfl, show cashA.name = ⟨#[67, 97, 115, 104]⟩ from rfl] at H3
  dsimp only at H1 H2 H3
  change Hid (∀ p bm W, ChartIs W p bm [] → Calls Try.prog 13 #[.pointer (some ⟨p, 0, none⟩), .agg #[.int .i64 10, .int .u8 1, .string ⟨#[67, 97, 115, 104]⟩]] W fun e w' => e = .returned (.int .i64 0) ∧ ChartIs w' p bm [cashA] ∧ Only bm W w') at H1
  unfold ListIs at H4
  rw [show [cashA].length = 1 from rfl] at H4
  generalize [cashA] = M at *
  go_enter Try.func7, Try.ntmps7
  go_wp2_with fail
  refine (chNew _).mono ?_
  rintro e w1 ⟨p, bm, rfl, hc, hl1, hl2, hb⟩
  have C1 := hide hc
  have B1 := hide hb
  have HL := hide hl1
  clear hc hb hl1 hl2
  go_wp2_with fail
  refine (H1.out p bm _ C1.out).mono ?_
  rintro e w2 ⟨rfl, hc, ho⟩
  have C2 := hide hc
  have B2 := hide (ho.below B1.out HL.out B1.out.size)
  clear hc ho C1 B1 H1
  go_wp2_with fail
  refine (H2.out p bm _ C2.out).mono ?_
  rintro e w3 ⟨rfl, hc, ho⟩
  have C3 := hide hc
  have B3 := hide (ho.below B2.out HL.out B2.out.size)
  clear hc ho C2 B2 H2
  go_wp2_with fail
  refine (H3.out p bm _ C3.out).mono ?_
  rintro e w4 ⟨rfl, hb⟩
  have hal := (Below.refl w4.heap.size w4).alloc (Nat.le_refl _) (.cells #[.int .i64 10, .int .u8 1, .string ⟨#[67, 97, 115, 104]⟩] 31)
  have X5 := hide (heap_new w4 (.cells #[.int .i64 10, .int .u8 1, .string ⟨#[67, 97, 115, 104]⟩] 31))
  have C5 := hide ((C3.out.below hb).below hal)
  have B5 := hide ((B3.out.trans (hb.mono B3.out.size)).trans (hal.mono (Nat.le_trans B3.out.size hb.size)))
  clear hb hal C3 B3 H3
  go_upto_region 5 with (fail)
  generalize w4.alloc (.cells #[.int .i64 10, .int .u8 1, .string ⟨#[67, 97, 115, 104]⟩] 31) = w5 at *
  generalize w4.heap.size = q at *
  have e2 : w5.cell? ⟨q, 2, none⟩ = some (.string ⟨#[67, 97, 115, 104]⟩) := cell_of_block X5.out 2
  go_wp2_with fail
  refine (H4.out p bm _ C5.out).mono ?_
  rintro e w6 ⟨a, c, rfl, -, hb⟩
  have B6 := hide (B5.out.trans (hb.mono B5.out.size))
  clear hb B5 H4
  go_wp2_with fail
  go_ret
  exact ⟨rfl, B6.out⟩
end Go.Proofs.Ytehjhldijhoeeaa
