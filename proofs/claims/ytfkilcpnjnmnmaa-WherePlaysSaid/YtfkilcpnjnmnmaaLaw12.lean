/-
  Layer 12: what the laws ask first; WhereMakes.
-/
import Derived.Test.YtfkilcpnjnmnmaaWhere4
--import Derived.Test.Zdbg
namespace Go.Proofs.Ytfkilcpnjnmnmaa
set_option linter.unusedSimpArgs false
set_option linter.unusedVariables false
open Go.RowKit Go.WideShapes Go.ChangeShapes Go.ChangeAt Go.Maps W

section
variable {w : World} {p q o l : Nat} {pg : Int} {nb : Nat} {S : Spots}
def putE (S : Spots) (i : Nat) (x : Int × Int) : Int := match owner S x with | none => 0 | some j => if j = i then 0 else 16
def putS (S : Spots) (i : Nat) (x : Int × Int) : Spots := if putE S i x = 0 then S.set i (some x) else S
theorem putS_len (S : Spots) (i : Nat) (x : Int × Int) : (putS S i x).length = S.length := by unfold putS; split <;> simp
theorem put_any (h : WhereAt w p q o l pg nb S) (i b n : Nat) (hi : i < S.length) (hb : b < nb) (hn : (n : Int) < pg) :
    Calls Try.prog 10 #[.pointer (some ⟨p, 0, none⟩), .int .i64 (i : Int), .agg #[.int .i64 (b : Int), .int .i64 (n : Int)]] w fun e w' => e = .returned (.int .i64 (putE S i ((b : Int), (n : Int)))) ∧ WhereAt w' p q o l pg nb (putS S i ((b : Int), (n : Int))) ∧ OnlyL [q, o, l] w w' := by
  cases ho : owner S ((b : Int), (n : Int)) with
  | none =>
    have he : putE S i ((b : Int), (n : Int)) = 0 := by unfold putE; rw [ho]
    unfold putS
    rw [he, if_pos rfl]
    exact put_ok h i b n hi hb hn (.inl ho)
  | some j =>
    by_cases hj : j = i
    · subst hj
      have he : putE S j ((b : Int), (n : Int)) = 0 := by unfold putE; rw [ho]; simp
      unfold putS
      rw [he, if_pos rfl]
      exact put_ok h j b n hi hb hn (.inr ho)
    · have he : putE S i ((b : Int), (n : Int)) = 16 := by unfold putE; rw [ho]; simp [hj]
      unfold putS
      rw [he, if_neg (by omega)]
      refine (put_there h i b n j hi hb hn ho hj).mono ?_
      rintro e w' ⟨rfl, hb'⟩
      exact ⟨rfl, h.below hb', .of_below hb'⟩
end
set_option maxRecDepth 100000 in
set_option maxHeartbeats 1000000 in
theorem wakes12 (w : World) : Calls Try.prog 9 #[] w fun e w' => e = .returned (.bool true) ∧ Below w.heap.size w w' := by
  have hq := eql_place 0 0 0 0
  have hg := guard_place .eql
  go_enter Try.func9, Try.ntmps9
  go_wp2_with fail
  refine (newW_yes 2 3 5 (by omega) (by omega) (by omega) (by omega) (by omega) (by omega) _).mono ?_
  rintro e w1 ⟨p, q, o, l, rfl, hW, hb, hp, hq0, ho, hl⟩
  have H1 := hide hW
  have B1 := hide hb
  clear hW hb
  go_wp2_with fail
  refine (put_ok H1.out 3 1 2 (by decide) (by omega) (by omega) (.inl (by decide))).mono ?_
  rintro e w2 ⟨rfl, hW, hb⟩
  have H2 := hide hW
  have B2 := hide (hb.below B1.out (by simp; omega) B1.out.size)
  clear hW hb H1 B1
  go_wp2_with fail
  refine (put_ok H2.out 3 0 0 (by decide) (by omega) (by omega) (.inl (by decide))).mono ?_
  rintro e w3 ⟨rfl, hW, hb⟩
  have H3 := hide hW
  have B3 := hide (hb.below B2.out (by simp; omega) B2.out.size)
  clear hW hb H2 B2
  go_wp2_with fail
  refine (at_some H3.out 3 (by decide) 0 0 (by decide)).mono ?_
  rintro e w4 ⟨rfl, hb⟩
  have H4 := hide ((H3.out.below hb).below ((Below.refl _ _).alloc (Nat.le_refl _) (.cells #[.int .i64 0, .int .i64 0] 35)))
  have B4 := hide ((B3.out.trans (hb.mono B3.out.size)).alloc (Nat.le_trans B3.out.size hb.size) (.cells #[.int .i64 0, .int .i64 0] 35))
  have L4 := hide (Nat.le_trans B3.out.size hb.size)
  have N4 := hide (heap_new w4 (.cells #[.int .i64 0, .int .i64 0] 35))
  clear hb H3 B3
  go_wp2_with fail
  refine (live_yes H4.out 1 (by omega)).mono ?_
  rintro e w5 ⟨rfl, rfl⟩
  have e1 : ((liveN (((List.replicate 5 none).set 3 (some (((1 : Nat) : Int), ((2 : Nat) : Int)))).set 3 (some (((0 : Nat) : Int), ((0 : Nat) : Int)))) ((1 : Nat) : Int) : Nat) : Int) = 0 := by decide
  rw [e1]
  clear e1
  go_wp2_with fail
  refine (live_yes H4.out 0 (by omega)).mono ?_
  rintro e w5 ⟨rfl, rfl⟩
  have e1 : ((liveN (((List.replicate 5 none).set 3 (some (((1 : Nat) : Int), ((2 : Nat) : Int)))).set 3 (some (((0 : Nat) : Int), ((0 : Nat) : Int)))) ((0 : Nat) : Int) : Nat) : Int) = 1 := by decide
  rw [e1]
  clear e1
  go_wp2_with fail
  refine (owner_any H4.out 0 0 ⟨by omega, by omega⟩ ⟨by omega, by omega⟩).mono ?_
  rintro e w5 ⟨rfl, hb⟩
  have e1 : ownZ (((List.replicate 5 none).set 3 (some (((1 : Nat) : Int), ((2 : Nat) : Int)))).set 3 (some (((0 : Nat) : Int), ((0 : Nat) : Int)))) 0 0 = 3 := by decide
  rw [e1]
  have H5 := hide (H4.out.below hb)
  have B5 := hide (B4.out.trans (hb.mono B4.out.size))
  clear e1 hb H4 B4
  go_wp2_with fail
  refine (total_any H5.out).mono ?_
  rintro e w6 ⟨rfl, rfl⟩
  have e1 : ((total (((List.replicate 5 none).set 3 (some (((1 : Nat) : Int), ((2 : Nat) : Int)))).set 3 (some (((0 : Nat) : Int), ((0 : Nat) : Int)))) : Nat) : Int) = 1 := by decide
  rw [e1]
  clear e1
  go_wp2_with fail
  go_ret
  exact ⟨rfl, B5.out⟩
theorem of_nil (b : Int) (w : World) : Calls Try.prog 16 #[.pointer none, .int .i64 b] w fun e w' => e = .returned (.slice none 0 0) ∧ w = w' := by
  go_enter Try.func16, Try.ntmps16
  go_wp2_with fail
  refine (live_nil b _).mono ?_
  rintro e w1 ⟨rfl, rfl⟩
  go_wp2
  go_ret
  exact ⟨rfl, rfl⟩
set_option maxRecDepth 100000 in
set_option maxHeartbeats 1000000 in
theorem makes_yes (a b c : Nat) (h1 : 1 ≤ a) (h2 : a ≤ 256) (h3 : 1 ≤ b) (h4 : b ≤ 64) (h5 : 1 ≤ c) (h6 : c ≤ 4096) (l : Int) (w : World) :
    Calls Try.prog 4 #[.agg #[.int .i64 (a : Int), .int .i64 (b : Int), .int .i64 (c : Int)], .int .i64 l] w fun e w' => e = .returned (.bool true) ∧ Below w.heap.size w w' := by
  go_enter Try.func4, Try.ntmps4
  go_wp2_with fail
  refine (newW_yes a b c h1 h2 h3 h4 h5 h6 _).mono ?_
  rintro e w1 ⟨p, q, o, l', rfl, -, hb, -, -, -, -⟩
  have hd := (bcell hb).1
  have B1 := hide (((Below.refl w.heap.size w).alloc (Nat.le_refl _) (.cells #[.int .i64 (a : Int), .int .i64 (b : Int), .int .i64 (c : Int)] 22)).trans (hb.mono (by simp)))
  have c0 : w1.cell? ⟨w.heap.size, 0, none⟩ = some (.int .i64 (a : Int)) := by rw [hd _ _ (by simp)]; rw [cell_of_block (heap_new w _)]; rfl
  have c1 : w1.cell? ⟨w.heap.size, 1, none⟩ = some (.int .i64 (b : Int)) := by rw [hd _ _ (by simp)]; rw [cell_of_block (heap_new w _)]; rfl
  have c2 : w1.cell? ⟨w.heap.size, 2, none⟩ = some (.int .i64 (c : Int)) := by rw [hd _ _ (by simp)]; rw [cell_of_block (heap_new w _)]; rfl
  clear hb hd
  go_wp2_with fail
  refine (at_nil l _).mono ?_
  rintro e w3 ⟨rfl, hb⟩
  have B3 := hide ((B1.out.trans (hb.mono B1.out.size)).alloc (Nat.le_trans B1.out.size hb.size) (.cells #[.int .i64 0, .int .i64 0] 35))
  clear hb
  go_wp2_with fail
  refine (wakes12 _).mono ?_
  rintro e w4 ⟨rfl, hb⟩
  have B4 := hide (B3.out.trans (hb.mono B3.out.size))
  clear hb B3
  go_wp2_with fail
  refine (put_nil l 0 0 _).mono ?_
  rintro e w5 ⟨rfl, hb⟩
  have B5 := hide (B4.out.trans (hb.mono B4.out.size))
  clear hb B4
  go_wp2_with fail
  refine (drop_nil l _).mono ?_
  rintro e w6 ⟨rfl, rfl⟩
  go_wp2_with fail
  refine (owner_nil l 0 _).mono ?_
  rintro e w7 ⟨rfl, hb⟩
  have B7 := hide (B5.out.trans (hb.mono B5.out.size))
  clear hb B5
  go_wp2_with fail
  refine (live_nil l _).mono ?_
  rintro e w8 ⟨rfl, rfl⟩
  go_wp2_with fail
  refine (total_nil _).mono ?_
  rintro e w8 ⟨rfl, rfl⟩
  go_wp2_with fail
  refine (of_nil l _).mono ?_
  rintro e w8 ⟨rfl, rfl⟩
  go_wp2_with fail
  go_ret
  exact ⟨rfl, B7.out⟩
set_option maxRecDepth 100000 in
set_option maxHeartbeats 4000000 in
theorem makes_no (a b c : Int) (h : a < 1 ∨ 256 < a ∨ b < 1 ∨ 64 < b ∨ c < 1 ∨ 4096 < c) (l : Int) (w : World) :
    Calls Try.prog 4 #[.agg #[.int .i64 a, .int .i64 b, .int .i64 c], .int .i64 l] w fun e w' => e = .returned (.bool true) ∧ Below w.heap.size w w' := by
  have HN := hide (fun W => newW_no a b c h W)
  have hsp : ¬ 1 ≤ a ∨ (1 ≤ a ∧ ¬ a ≤ 256) ∨ (1 ≤ a ∧ a ≤ 256 ∧ ¬ 1 ≤ b) ∨ (1 ≤ a ∧ a ≤ 256 ∧ 1 ≤ b ∧ ¬ b ≤ 64) ∨ (1 ≤ a ∧ a ≤ 256 ∧ 1 ≤ b ∧ b ≤ 64 ∧ ¬ 1 ≤ c) ∨ (1 ≤ a ∧ a ≤ 256 ∧ 1 ≤ b ∧ b ≤ 64 ∧ 1 ≤ c ∧ ¬ c ≤ 4096) := by omega
  clear h
  have B1 := hide ((Below.refl w.heap.size w).alloc (Nat.le_refl _) (.cells #[.int .i64 a, .int .i64 b, .int .i64 c] 22))
  rcases hsp with h1 | ⟨h1, h2⟩ | ⟨h1, h2, h3⟩ | ⟨h1, h2, h3, h4⟩ | ⟨h1, h2, h3, h4, h5⟩ | ⟨h1, h2, h3, h4, h5, h6⟩
  all_goals
    go_enter Try.func4, Try.ntmps4
    go_wp2_with fail
    refine (HN.out _).mono ?_
    rintro e w1 ⟨rfl, rfl⟩
    go_wp2_with fail
    refine (at_nil l _).mono ?_
    rintro e w3 ⟨rfl, hb⟩
    have B3 := hide ((B1.out.trans (hb.mono B1.out.size)).alloc (Nat.le_trans B1.out.size hb.size) (.cells #[.int .i64 0, .int .i64 0] 35))
    clear hb
    go_wp2_with fail
    refine (wakes12 _).mono ?_
    rintro e w4 ⟨rfl, hb⟩
    have B4 := hide (B3.out.trans (hb.mono B3.out.size))
    clear hb B3
    go_wp2_with fail
    refine (put_nil l 0 0 _).mono ?_
    rintro e w5 ⟨rfl, hb⟩
    have B5 := hide (B4.out.trans (hb.mono B4.out.size))
    clear hb B4
    go_wp2_with fail
    refine (drop_nil l _).mono ?_
    rintro e w6 ⟨rfl, rfl⟩
    go_wp2_with fail
    refine (owner_nil l 0 _).mono ?_
    rintro e w7 ⟨rfl, hb⟩
    have B7 := hide (B5.out.trans (hb.mono B5.out.size))
    clear hb B5
    go_wp2_with fail
    refine (live_nil l _).mono ?_
    rintro e w8 ⟨rfl, rfl⟩
    go_wp2_with fail
    refine (total_nil _).mono ?_
    rintro e w8 ⟨rfl, rfl⟩
    go_wp2_with fail
    refine (of_nil l _).mono ?_
    rintro e w8 ⟨rfl, rfl⟩
    go_wp2_with fail
    go_ret
    exact ⟨rfl, B7.out⟩
theorem whereMakes_walk (v : Value) (hv : ∃ xs : List Int, xs.length = 3 ∧ v = .agg (xs.map (Value.int .i64)).toArray ∧ ∀ x ∈ xs, (Lit.int .i64 x).wf = true) (l : Int) (l0 : -9223372036854775808 ≤ l) (l1 : l ≤ 9223372036854775807) (w : World) :
    Calls Try.prog 4 #[v, .int .i64 l] w fun e w' => e = .returned (.bool true) ∧ Below w.heap.size w w' := by
  obtain ⟨xs, hl, rfl, -⟩ := hv
  match xs, hl with
  | [a, b, c], _ =>
    by_cases h : a < 1 ∨ 256 < a ∨ b < 1 ∨ 64 < b ∨ c < 1 ∨ 4096 < c
    · exact makes_no a b c h l w
    · obtain ⟨a', rfl⟩ := Int.eq_ofNat_of_zero_le (show 0 ≤ a by omega)
      obtain ⟨b', rfl⟩ := Int.eq_ofNat_of_zero_le (show 0 ≤ b by omega)
      obtain ⟨c', rfl⟩ := Int.eq_ofNat_of_zero_le (show 0 ≤ c by omega)
      exact makes_yes a' b' c' (by omega) (by omega) (by omega) (by omega) (by omega) (by omega) l w

set_option maxRecDepth 100000 in
theorem whereMakes_lifted (os : Os) (started : os.Started) (H : Type) (enc : TypeId × Value → H) :
    ReturnsInHanded {} Try.checked os 4 .any (Rows.whereMakesSpec.pre6 enc Try.prog Try.f4 Rows.whereMakesRow.domain false) (Rows.whereMakesSpec.post enc Try.prog Try.f4 false true false false) := by
  refine returnsInHanded_of_change (C := Try.checked) own started (by kernel_rfl) Try.func4
    (ChangeSpec.witness6 (enc := enc) (C := Try.checked) false ⟨#[], #[.agg #[.int .i64 0, .int .i64 0, .int .i64 0], .int .i64 0], []⟩ 8 (by kernel_rfl) (by kernel_rfl) (by kernel_rfl) (by kernel_rfl)) ?_
  intro W base args ds gs before hval0 hW _ _
  have hval : ∀ (j : Nat) t v, Try.f4.params[j]? = some t → args[j]? = some v → Value.okWide Try.prog W .any base t v := hval0
  have hW' := hW
  obtain ⟨p, q, hA0, hV, rfl, hfz, hnd⟩ := hW
  have hA : DataW.TrodAll enc Try.prog W 0 (fun _ => true) true Try.f4.params.toList args.toList ds p := hA0
  rw [Try.params4] at hA hval
  obtain ⟨v0, vs0, d0, ds0, p0, q0, hargs, rfl, rfl, h0, r0⟩ := trodAll_cons hA
  obtain ⟨v1, vs1, d1, ds1, p1, q1, rfl, rfl, rfl, h1, r1⟩ := trodAll_cons r0
  obtain ⟨rfl, rfl, rfl⟩ := trodAll_nil r1
  obtain rfl : args = #[v0, v1] := by cases args; simp_all
  obtain ⟨rfl, rfl⟩ := trodVars_none hV
  have z0 := open_nums_array 3 Try.underlying22 Try.underlying3 (by kernel_rfl) (by kernel_rfl) (hval 0 22 v0 rfl rfl) h0
  obtain ⟨l, rfl, rfl, rfl, w1⟩ := open_int Try.underlying3 (hval 1 3 v1 rfl rfl) h1
  have z1 := wf_i64 w1
  clear hA0 hval0
  refine (whereMakes_walk v0 z0 l z1.1 z1.2 W).mono fun e W' ⟨he, hb⟩ => ?_
  subst he
  exact ⟨_, rfl, post_law laidOut (of_decide_eq_true (by kernel_rfl)) rfl rfl Try.underlying4 hW' ⟨rfl, rfl, rfl⟩ hb⟩

/-- THE STATEMENT -/
theorem whereMakes_holds : Rows.WhereMakesSaid :=
  OpenClaim.holds_of_wide 4 Try.f4 rfl rfl rfl rfl rfl rfl rfl ⟨rfl, rfl, rfl, rfl, rfl⟩ rfl rfl rfl rfl rfl (by kernel_rfl) Try.func4 (by kernel_rfl)
    (of_decide_eq_true (by kernel_rfl)) (by unfold Func.isWrapper; first | (rw [if_pos (by decide +kernel)]; kernel_rfl) | (rw [if_neg (by decide +kernel)]; exact ⟨rfl, rfl⟩))
    (fun os started H enc _ => whereMakes_lifted os started H enc)

end Go.Proofs.Ytfkilcpnjnmnmaa
