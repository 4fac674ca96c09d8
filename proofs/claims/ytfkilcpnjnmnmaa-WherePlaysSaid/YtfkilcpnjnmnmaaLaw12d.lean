/-
  Layer 12: WherePlays.
-/
import Derived.Test.YtfkilcpnjnmnmaaRWhere3
import Derived.Test.YtfkilcpnjnmnmaaKitF
namespace Go.Proofs.Ytfkilcpnjnmnmaa
set_option linter.unusedSimpArgs false
set_option linter.unusedVariables false
open Go.RowKit Go.WideShapes Go.ChangeShapes Go.ChangeAt Go.Maps W

structure A4 where
  d : Int
  l : Int
  b : Int
  n : Int
def act4 (x : A4) : List Value := [.int .i64 x.d, .int .i64 x.l, .int .i64 x.b, .int .i64 x.n]
def Act4Ok (x : A4) : Prop := (-9223372036854775808 ≤ x.d ∧ x.d ≤ 9223372036854775807) ∧ (-9223372036854775808 ≤ x.l ∧ x.l ≤ 9223372036854775807) ∧ (-9223372036854775808 ≤ x.b ∧ x.b ≤ 9223372036854775807) ∧ (-9223372036854775808 ≤ x.n ∧ x.n ≤ 9223372036854775807)
def act0 : A4 := ⟨0, 0, 0, 0⟩
/-- what is done, as it came in -/
def ActsIn (w : World) (v : Value) : Prop := ∃ L : List A4, RowsAt w v 4 (L.map act4) ∧ ∀ x ∈ L, Act4Ok x
theorem act4_of {x : List Value} (hl : x.length = 4) (h : ∀ (j : Nat) c u, [TypeDesc.int .i64, .int .i64, .int .i64, .int .i64][j]? = some c → x[j]? = some u → CellIs c u) : ∃ f : A4, x = act4 f ∧ Act4Ok f := by
  match x, hl with
  | [c0, c1, c2, c3], _ =>
    obtain ⟨k, rfl, hk⟩ := h 0 _ _ rfl rfl
    obtain ⟨l, rfl, hl⟩ := h 1 _ _ rfl rfl
    obtain ⟨b, rfl, hb⟩ := h 2 _ _ rfl rfl
    obtain ⟨n, rfl, hn⟩ := h 3 _ _ rfl rfl
    exact ⟨⟨k, l, b, n⟩, rfl, wf_i64 hk, wf_i64 hl, wf_i64 hb, wf_i64 hn⟩
theorem open_acts {H : Type} {enc : TypeId × Value → H} {w : World} {base : Nat} {sp : Nat → Bool} {held : Bool} {r : Reach} {b0 : Nat} {v : Value} {d : DataW H} {ps : List MemPlace}
    (hv : Value.okWide Try.prog w r b0 23 v) (h : DataW.Trod enc Try.prog w base sp held 23 v d ps) : ActsIn w v := by
  obtain ⟨L, hL, hx⟩ := open_rows [.int .i64, .int .i64, .int .i64, .int .i64] Try.underlying23 Try.underlying32 (by kernel_rfl) (by kernel_rfl) (by decide) rfl (fun j hj => by
    have : j = 0 ∨ j = 1 ∨ j = 2 ∨ j = 3 := by simp at hj; omega
    rcases this with rfl | rfl | rfl | rfl <;> rfl) hv h
  obtain ⟨L', rfl, hp⟩ := rows_typed act4 Act4Ok L (fun x hxL => act4_of (hx x hxL).1 (hx x hxL).2)
  exact ⟨L', hL, hp⟩
theorem actsIn_at {w : World} {v : Value} (h : ActsIn w v) : ∃ (L : List A4) (a : Option Addr) (cap : Nat), v = .slice a L.length cap ∧ L.length ≤ cap ∧ cap ≤ 9223372036854775807 ∧ (∀ x ∈ L, Act4Ok x) ∧
    ∀ i, i < L.length → ∃ b off, a = some ⟨b, off, none⟩ ∧ b < w.heap.size ∧ w.cell? ⟨b, off + (i * 4), none⟩ = some (.int .i64 (L.getD i act0).d) ∧ w.cell? ⟨b, off + (i * 4 + 1), none⟩ = some (.int .i64 (L.getD i act0).l) ∧ w.cell? ⟨b, off + (i * 4 + 2), none⟩ = some (.int .i64 (L.getD i act0).b) ∧ w.cell? ⟨b, off + (i * 4 + 3), none⟩ = some (.int .i64 (L.getD i act0).n) := by
  obtain ⟨L, ⟨a, cap, rfl, hm, hc, hcm, hi⟩, hok⟩ := h
  rw [List.length_map] at *
  unfold maxLen at *
  refine ⟨L, a, cap, rfl, hc, by omega, hok, fun i hil => ?_⟩
  obtain ⟨b, off, h1, h2, h3⟩ := hi i hil
  rw [getD_map act4 L act0 i hil] at h3
  exact ⟨b, off, h1, h2, h3 0 (by omega), h3 1 (by omega), h3 2 (by omega), h3 3 (by omega)⟩
theorem getD_mem4 (L : List A4) (i : Nat) (h : i < L.length) : L.getD i act0 ∈ L := by
  simp [List.getD, h]
/-- what an owned row of numbers holds -/
theorem owns_ints {w : World} {B e m : Nat} {a : Option Addr} {cap : Nat} {L : List Int} (h : w.ownsRow B e 1 (.slice a m cap) L.length (L.map (Value.int .i64))) (i : Nat) (hi : i < L.length) :
    ∃ g, a = some ⟨g, 0, none⟩ ∧ g < w.heap.size ∧ w.cell? ⟨g, i, none⟩ = some (.int .i64 (L.getD i 0)) := by
  have h' : w.ownsRow B e 1 (.slice a m cap) L.length (L.flatMap fun x => [Value.int .i64 x]) := by
    have hf : ∀ l : List Int, (l.flatMap fun x => [Value.int .i64 x]) = l.map (Value.int .i64) := by
      intro l
      induction l with
      | nil => rfl
      | cons x l ih => rw [List.flatMap_cons, ih]; rfl
    rw [hf]
    exact h
  obtain ⟨g, rfl, -, hl, hj⟩ := owns_rows (n := 1) (fun x => [Value.int .i64 x]) (fun _ => rfl) 0 h' i hi
  have := hj 0 (by omega)
  rw [Nat.mul_one, Nat.add_zero] at this
  exact ⟨g, rfl, hl, this⟩
def onl4 (w W : World) : Prop := Below w.heap.size w W
set_option maxRecDepth 100000 in
set_option maxHeartbeats 4000000 in
theorem wherePlays_few (x0 x1 x2 : Int) (w : World) (L : List A4) (a : Option Addr) (cap : Nat) (hc : L.length ≤ cap) (hcm : cap ≤ 9223372036854775807) (hok : ∀ x ∈ L, Act4Ok x)
    (hat : ∀ i, i < L.length → ∃ b off, a = some ⟨b, off, none⟩ ∧ b < w.heap.size ∧ w.cell? ⟨b, off + (i * 4), none⟩ = some (.int .i64 (L.getD i act0).d) ∧ w.cell? ⟨b, off + (i * 4 + 1), none⟩ = some (.int .i64 (L.getD i act0).l) ∧ w.cell? ⟨b, off + (i * 4 + 2), none⟩ = some (.int .i64 (L.getD i act0).b) ∧ w.cell? ⟨b, off + (i * 4 + 3), none⟩ = some (.int .i64 (L.getD i act0).n)) (hbig : L.length ≤ 60) :
    Calls Try.prog 3 #[.agg #[.int .i64 x0, .int .i64 x1, .int .i64 x2], .slice a L.length cap] w fun e w' => e = .returned (.bool true) ∧ Below w.heap.size w w' := by
  have HOK := hide hok
  have HAT := hide hat
  clear hok hat
  obtain ⟨mx, hmx, m0⟩ : ∃ mx, (if 0 < x0 then x0 else 0) = mx ∧ 0 ≤ mx := ⟨_, rfl, by split <;> omega⟩
  obtain ⟨my, hmy, m1⟩ : ∃ mx, (if 0 < x1 then x1 else 0) = mx ∧ 0 ≤ mx := ⟨_, rfl, by split <;> omega⟩
  obtain ⟨mz, hmz, m2⟩ : ∃ mx, (if 0 < x2 then x2 else 0) = mx ∧ 0 ≤ mx := ⟨_, rfl, by split <;> omega⟩
  have y0 : mx % 4 = mx.tmod 4 := by rw [Int.tmod_eq_emod_of_nonneg m0]
  have y1 : my % 4 = my.tmod 4 := by rw [Int.tmod_eq_emod_of_nonneg m1]
  have y2 : mz % 8 = mz.tmod 8 := by rw [Int.tmod_eq_emod_of_nonneg m2]
  go_enter Try.func3, Try.ntmps3
  go_wp2_with fail
  go_region
  go_wp2_with fail
  obtain ⟨nb, hn⟩ := Int.eq_ofNat_of_zero_le (show 0 ≤ 1 + mx % 4 by omega)
  obtain ⟨pgs, hp⟩ := Int.eq_ofNat_of_zero_le (show 0 ≤ 1 + my % 4 by omega)
  obtain ⟨lg, hl⟩ := Int.eq_ofNat_of_zero_le (show 0 ≤ 1 + mz % 8 by omega)
  have nb1 : 1 ≤ nb := by omega
  have nb4 : nb ≤ 4 := by omega
  have pg1 : 1 ≤ pgs := by omega
  have pg4 : pgs ≤ 4 := by omega
  have lg1 : 1 ≤ lg := by omega
  have lg8 : lg ≤ 8 := by omega
  rw [hn, hp, hl]
  clear hn hp hl y0 y1 y2 hmx hmy hmz
  refine (newW_yes nb pgs lg (by omega) (by omega) (by omega) (by omega) (by omega) (by omega) _).mono ?_
  rintro e w1 ⟨p, q, o, l, rfl, hx, hb, p0, q0, o0, l0⟩
  have HX1 := hide hx
  have HB1 := hide ((Below.refl w.heap.size w).alloc (Nat.le_refl _) (.cells #[.int .i64 x0, .int .i64 x1, .int .i64 x2] 22) |>.drew |>.trans (hb.mono (by simp [World.drew])))
  have hw0 := hx.lt
  have P0 := hide (show w.heap.size ≤ p ∧ w.heap.size ≤ q ∧ w.heap.size ≤ o ∧ w.heap.size ≤ l by simp [World.drew] at p0 q0 o0 l0; omega)
  clear hx hb p0 q0 o0 l0
  go_wp2_with fail
  refine (rnew_any (nb : Int) (pgs : Int) lg (by omega) (by omega) _).mono ?_
  rintro e w2 ⟨r, g, rcap, rfl, hr, hb, r0, g0⟩
  have HX2 := hide (HX1.out.below hb)
  have HR2 := hide hr
  have HB2 := hide (below_trans HB1.out hb)
  have P1 := hide (show (r ∉ [q, o, l] ∧ g ∉ [q, o, l]) ∧ (p ∉ [g] ∧ q ∉ [g] ∧ o ∉ [g] ∧ l ∉ [g]) ∧ w.heap.size ≤ r ∧ w.heap.size ≤ g by
    have hs := HB1.out.size
    have hp0 := P0.out
    simp only [List.mem_cons, List.not_mem_nil, or_false, not_or]
    omega)
  clear hr hb r0 g0 hw0 HX1 HB1
  go_wp2_with fail
  refine (wakes12 _).mono ?_
  rintro e w3 ⟨rfl, hb⟩
  have HX3 := hide (HX2.out.below hb)
  have HR3 := hide (HR2.out.below hb)
  have HB3 := hide (below_trans HB2.out hb)
  clear hb HX2 HR2 HB2
  go_wp2_with fail
  go_loopw [67] (fun i W => ∃ (k : Nat) (S : Spots), k ≤ L.length ∧ i = .int .i64 k ∧ S.length = lg ∧ WhereAt W p q o l (pgs : Int) nb S ∧ RefW W r g rcap (nb : Int) (pgs : Int) S ∧ Below w.heap.size w W) (fun i _ => L.length - (intOf i).toNat)
  case atStart => exact ⟨0, List.replicate lg none, by omega, rfl, by simp, HX3.out, HR3.out, HB3.out⟩
  case round =>
    clear HX3 HR3 HB3
    obtain ⟨k, S, hk, rfl, hL, hx, hr, hB⟩ := hrel
    have HX := hide hx
    have HR := hide hr
    have HB := hide hB
    have HL := hide hL
    by_cases hlt : k < L.length
    · obtain ⟨b, off, rfl, hb, c0, c1, c2, c3⟩ := HAT.out k (by omega)
      have d0 : wr.cell? ⟨b, off + k * 4, none⟩ = some (.int .i64 (L.getD k act0).d) := (hB.cell (p := ⟨b, off + k * 4, none⟩) hb).trans c0
      have d1 : wr.cell? ⟨b, off + k * 4 + 1, none⟩ = some (.int .i64 (L.getD k act0).l) := (hB.cell (p := ⟨b, off + k * 4 + 1, none⟩) hb).trans c1
      have d2 : wr.cell? ⟨b, off + k * 4 + 2, none⟩ = some (.int .i64 (L.getD k act0).b) := (hB.cell (p := ⟨b, off + k * 4 + 2, none⟩) hb).trans c2
      have d3 : wr.cell? ⟨b, off + k * 4 + 3, none⟩ = some (.int .i64 (L.getD k act0).n) := (hB.cell (p := ⟨b, off + k * 4 + 3, none⟩) hb).trans c3
      have HI := hide (HOK.out _ (getD_mem4 L k (by omega)))
      have hbw : b < wr.heap.size := Nat.lt_of_lt_of_le hb hB.size
      generalize L.getD k act0 = x at *
      obtain ⟨xd, xl, xb, xn⟩ := x
      simp only at d0 d1 d2 d3 c0 c1 c2 c3
      clear hx hr hB hL c0 c1 c2 c3
      obtain ⟨mw, hmw, mw0⟩ : ∃ my, (if 0 < xd then xd else 0) = my ∧ 0 ≤ my := ⟨_, rfl, by split <;> omega⟩
      have y5 : mw % 4 = mw.tmod 4 := by rw [Int.tmod_eq_emod_of_nonneg mw0]
      have hws := HB.out.size
      by_cases hcs : mw % 4 < 3
      · as_aux_lemma =>
          have hct : mw.tmod 4 < 3 := by rw [← y5]; exact hcs
          have HXA := hide (HX.out.below ((Below.refl wr.heap.size wr).alloc (Nat.le_refl _) (.cells #[.int .i64 xd, .int .i64 xl, .int .i64 xb, .int .i64 xn] 32)))
          have HRA := hide (HR.out.below ((Below.refl wr.heap.size wr).alloc (Nat.le_refl _) (.cells #[.int .i64 xd, .int .i64 xl, .int .i64 xb, .int .i64 xn] 32)))
          have HBA := hide (HB.out.alloc HB.out.size (.cells #[.int .i64 xd, .int .i64 xl, .int .i64 xb, .int .i64 xn] 32))
          have hna : wr.heap.size ∉ [q, o, l] := by
            have := HX.out.lt
            simp only [List.mem_cons, List.not_mem_nil, or_false, not_or]
            omega
          have hnb : wr.heap.size ∉ [g] := by
            have := HR.out.lt
            simp only [List.mem_cons, List.not_mem_nil, or_false, not_or]
            omega
          have HST : Hid ((fun W => W.cell? ⟨wr.heap.size, 1, none⟩ = some (.int .i64 xl) ∧ W.cell? ⟨wr.heap.size, 2, none⟩ = some (.int .i64 xb) ∧ W.cell? ⟨wr.heap.size, 3, none⟩ = some (.int .i64 xn) ∧ wr.heap.size < W.heap.size) (wr.alloc (.cells #[.int .i64 xd, .int .i64 xl, .int .i64 xb, .int .i64 xn] 32)).drew) := hide ⟨by show (wr.alloc _).cell? _ = _; simp [World.cell?_alloc_new], by show (wr.alloc _).cell? _ = _; simp [World.cell?_alloc_new], by show (wr.alloc _).cell? _ = _; simp [World.cell?_alloc_new], by show _ < (wr.alloc _).heap.size; simp⟩
          have HL' := hide ((putT_len S nb pgs xl xb xn).trans HL.out)
          have HC1 := hide (fun (W : World) (hW : WhereAt W p q o l (pgs : Int) nb S) => pput_any hW xl xb xn)
          have HC2 := hide (fun (W : World) (hW : RefW W r g rcap (nb : Int) (pgs : Int) S) => rput_any hW (ref_ok HX.out) (by rw [HL.out]; omega) xl xb xn)
          generalize putZ S nb pgs xl xb xn = E at *
          generalize putT S nb pgs xl xb xn = S' at *
          clear y5
          go_upto_region 11 with (fail)
          refine wp_region_held_drew (S := (fun W => W.cell? ⟨wr.heap.size, 1, none⟩ = some (.int .i64 xl) ∧ W.cell? ⟨wr.heap.size, 2, none⟩ = some (.int .i64 xb) ∧ W.cell? ⟨wr.heap.size, 3, none⟩ = some (.int .i64 xn) ∧ wr.heap.size < W.heap.size)) (by kernel_rfl) (HST.out) (fun hHeld => ?_)
          refine wpAnyH_take (i := 0) (oi := { dst := some 76, op := Op.move (Operand.tmp 8), type := 24, pos := "law.go:35", after := #[], guard := none }) (v := ?_) rfl (by kernel_rfl) (by kernel_rfl) (by kernel_rfl) (fun _ _ _ h => h) (Or.inl ⟨by kernel_rfl, ?_⟩) hHeld ?_
          rotate_left
          · (intro w hSw; (try dsimp only at hSw); go_simp); try with_reducible rfl
          try simp only [Act.put, List.setIfInBounds_toArray, List.set_cons_zero, List.set_cons_succ]
          refine wpAnyH_take (i := 1) (oi := { dst := some 77, op := Op.fieldAddr 32 (Operand.tmp 12) 1, type := 0, pos := "law.go:35", after := #[], guard := none }) (v := ?_) rfl (by kernel_rfl) (by kernel_rfl) (by kernel_rfl) (fun _ _ _ h => h) (Or.inl ⟨by kernel_rfl, ?_⟩) hHeld ?_
          rotate_left
          · (intro w hSw; (try dsimp only at hSw); go_simp); try with_reducible rfl
          try simp only [Act.put, List.setIfInBounds_toArray, List.set_cons_zero, List.set_cons_succ]
          refine wpAnyH_take (i := 2) (oi := { dst := some 78, op := Op.load 3 (Operand.tmp 77), type := 3, pos := "law.go:35", after := #[{ on := 1, ground := Ground.data }], guard := none }) (v := ?_) rfl (by kernel_rfl) (by kernel_rfl) (by kernel_rfl) (fun _ _ _ h => h) (Or.inl ⟨by kernel_rfl, ?_⟩) hHeld ?_
          rotate_left
          · (intro w hSw; (try dsimp only at hSw); go_simp); try with_reducible rfl
          try simp only [Act.put, List.setIfInBounds_toArray, List.set_cons_zero, List.set_cons_succ]
          refine wpAnyH_take (i := 3) (oi := { dst := some 79, op := Op.fieldAddr 32 (Operand.tmp 12) 2, type := 0, pos := "law.go:35", after := #[], guard := none }) (v := ?_) rfl (by kernel_rfl) (by kernel_rfl) (by kernel_rfl) (fun _ _ _ h => h) (Or.inl ⟨by kernel_rfl, ?_⟩) hHeld ?_
          rotate_left
          · (intro w hSw; (try dsimp only at hSw); go_simp); try with_reducible rfl
          try simp only [Act.put, List.setIfInBounds_toArray, List.set_cons_zero, List.set_cons_succ]
          refine wpAnyH_take (i := 4) (oi := { dst := some 80, op := Op.load 3 (Operand.tmp 79), type := 3, pos := "law.go:35", after := #[{ on := 3, ground := Ground.data }], guard := none }) (v := ?_) rfl (by kernel_rfl) (by kernel_rfl) (by kernel_rfl) (fun _ _ _ h => h) (Or.inl ⟨by kernel_rfl, ?_⟩) hHeld ?_
          rotate_left
          · (intro w hSw; (try dsimp only at hSw); go_simp); try with_reducible rfl
          try simp only [Act.put, List.setIfInBounds_toArray, List.set_cons_zero, List.set_cons_succ]
          refine wpAnyH_take (i := 5) (oi := { dst := some 81, op := Op.fieldAddr 32 (Operand.tmp 12) 3, type := 0, pos := "law.go:35", after := #[], guard := none }) (v := ?_) rfl (by kernel_rfl) (by kernel_rfl) (by kernel_rfl) (fun _ _ _ h => h) (Or.inl ⟨by kernel_rfl, ?_⟩) hHeld ?_
          rotate_left
          · (intro w hSw; (try dsimp only at hSw); go_simp); try with_reducible rfl
          try simp only [Act.put, List.setIfInBounds_toArray, List.set_cons_zero, List.set_cons_succ]
          refine wpAnyH_take (i := 6) (oi := { dst := some 82, op := Op.load 3 (Operand.tmp 81), type := 3, pos := "law.go:35", after := #[{ on := 5, ground := Ground.data }], guard := none }) (v := ?_) rfl (by kernel_rfl) (by kernel_rfl) (by kernel_rfl) (fun _ _ _ h => h) (Or.inl ⟨by kernel_rfl, ?_⟩) hHeld ?_
          rotate_left
          · (intro w hSw; (try dsimp only at hSw); go_simp); try with_reducible rfl
          try simp only [Act.put, List.setIfInBounds_toArray, List.set_cons_zero, List.set_cons_succ]
          refine wpAnyH_take (i := 7) (oi := { dst := some 83, op := Op.build 35 #[(0, Operand.tmp 80), (1, Operand.tmp 82)], type := 35, pos := "law.go:35", after := #[{ on := 4, ground := Ground.data }, { on := 6, ground := Ground.data }], guard := none }) (v := ?_) rfl (by kernel_rfl) (by kernel_rfl) (by kernel_rfl) (fun _ _ _ h => h) (Or.inl ⟨by kernel_rfl, ?_⟩) hHeld ?_
          rotate_left
          · (intro w hSw; (try dsimp only at hSw); go_simp); try with_reducible rfl
          try simp only [Act.put, List.setIfInBounds_toArray, List.set_cons_zero, List.set_cons_succ]
          refine wpAnyH_take (i := 9) (oi := { dst := some 85, op := Op.move (Operand.tmp 10), type := 28, pos := "law.go:35", after := #[], guard := none }) (v := ?_) rfl (by kernel_rfl) (by kernel_rfl) (by kernel_rfl) (fun _ _ _ h => h) (Or.inl ⟨by kernel_rfl, ?_⟩) hHeld ?_
          rotate_left
          · (intro w hSw; (try dsimp only at hSw); go_simp); try with_reducible rfl
          try simp only [Act.put, List.setIfInBounds_toArray, List.set_cons_zero, List.set_cons_succ]
          refine wpAnyH_take (i := 10) (oi := { dst := some 86, op := Op.fieldAddr 32 (Operand.tmp 12) 1, type := 0, pos := "law.go:35", after := #[], guard := none }) (v := ?_) rfl (by kernel_rfl) (by kernel_rfl) (by kernel_rfl) (fun _ _ _ h => h) (Or.inl ⟨by kernel_rfl, ?_⟩) hHeld ?_
          rotate_left
          · (intro w hSw; (try dsimp only at hSw); go_simp); try with_reducible rfl
          try simp only [Act.put, List.setIfInBounds_toArray, List.set_cons_zero, List.set_cons_succ]
          refine wpAnyH_take (i := 11) (oi := { dst := some 87, op := Op.load 3 (Operand.tmp 86), type := 3, pos := "law.go:35", after := #[{ on := 10, ground := Ground.data }], guard := none }) (v := ?_) rfl (by kernel_rfl) (by kernel_rfl) (by kernel_rfl) (fun _ _ _ h => h) (Or.inl ⟨by kernel_rfl, ?_⟩) hHeld ?_
          rotate_left
          · (intro w hSw; (try dsimp only at hSw); go_simp); try with_reducible rfl
          try simp only [Act.put, List.setIfInBounds_toArray, List.set_cons_zero, List.set_cons_succ]
          refine wpAnyH_take (i := 12) (oi := { dst := some 88, op := Op.fieldAddr 32 (Operand.tmp 12) 2, type := 0, pos := "law.go:35", after := #[], guard := none }) (v := ?_) rfl (by kernel_rfl) (by kernel_rfl) (by kernel_rfl) (fun _ _ _ h => h) (Or.inl ⟨by kernel_rfl, ?_⟩) hHeld ?_
          rotate_left
          · (intro w hSw; (try dsimp only at hSw); go_simp); try with_reducible rfl
          try simp only [Act.put, List.setIfInBounds_toArray, List.set_cons_zero, List.set_cons_succ]
          refine wpAnyH_take (i := 13) (oi := { dst := some 89, op := Op.load 3 (Operand.tmp 88), type := 3, pos := "law.go:35", after := #[{ on := 12, ground := Ground.data }], guard := none }) (v := ?_) rfl (by kernel_rfl) (by kernel_rfl) (by kernel_rfl) (fun _ _ _ h => h) (Or.inl ⟨by kernel_rfl, ?_⟩) hHeld ?_
          rotate_left
          · (intro w hSw; (try dsimp only at hSw); go_simp); try with_reducible rfl
          try simp only [Act.put, List.setIfInBounds_toArray, List.set_cons_zero, List.set_cons_succ]
          refine wpAnyH_take (i := 14) (oi := { dst := some 90, op := Op.fieldAddr 32 (Operand.tmp 12) 3, type := 0, pos := "law.go:35", after := #[], guard := none }) (v := ?_) rfl (by kernel_rfl) (by kernel_rfl) (by kernel_rfl) (fun _ _ _ h => h) (Or.inl ⟨by kernel_rfl, ?_⟩) hHeld ?_
          rotate_left
          · (intro w hSw; (try dsimp only at hSw); go_simp); try with_reducible rfl
          try simp only [Act.put, List.setIfInBounds_toArray, List.set_cons_zero, List.set_cons_succ]
          refine wpAnyH_take (i := 15) (oi := { dst := some 91, op := Op.load 3 (Operand.tmp 90), type := 3, pos := "law.go:35", after := #[{ on := 14, ground := Ground.data }], guard := none }) (v := ?_) rfl (by kernel_rfl) (by kernel_rfl) (by kernel_rfl) (fun _ _ _ h => h) (Or.inl ⟨by kernel_rfl, ?_⟩) hHeld ?_
          rotate_left
          · (intro w hSw; (try dsimp only at hSw); go_simp); try with_reducible rfl
          try simp only [Act.put, List.setIfInBounds_toArray, List.set_cons_zero, List.set_cons_succ]
          refine wpAnyH_ready (rs := [8]) (by kernel_rfl) (by simp) ?_
          refine AllReadyH.cons (o := { dst := some 84, op := Op.call { callee := Callee.value (Operand.func 10), args := #[Operand.tmp 76, Operand.tmp 78, Operand.tmp 83], argTypes := #[24, 3, 35] }, type := 25, pos := "law.go:35", after := #[{ on := 0, ground := Ground.data }, { on := 2, ground := Ground.data }, { on := 7, ground := Ground.data }], guard := none }) rfl (fun K hK => ?_) AllReadyH.nil
          have hOld := hide hHeld
          clear hHeld
          go_simp
          refine (HC1.out _ HXA.out.drew).mono ?_
          rintro e w5 ⟨rfl, hx5, ho5⟩
          have HX5 := hide hx5
          have HR5 := hide ((HRA.out.drewN 1).onlyL ho5 P1.out.1.1 P1.out.1.2)
          have HB5 := hide (ho5.below (HBA.out.drewN 1) (by have := P0.out; simp; omega) HBA.out.size)
          have HK5 := hide (show (fun W => W.cell? ⟨wr.heap.size, 1, none⟩ = some (.int .i64 xl) ∧ W.cell? ⟨wr.heap.size, 2, none⟩ = some (.int .i64 xb) ∧ W.cell? ⟨wr.heap.size, 3, none⟩ = some (.int .i64 xn) ∧ wr.heap.size < W.heap.size) w5 from ⟨(ho5.cell hOld.out.2.2.2 hna).trans hOld.out.1, (ho5.cell hOld.out.2.2.2 hna).trans hOld.out.2.1, (ho5.cell hOld.out.2.2.2 hna).trans hOld.out.2.2.1, Nat.lt_of_lt_of_le hOld.out.2.2.2 ho5.size⟩)
          clear hx5 ho5
          (try go_wp2_with fail)
          refine hK.out _ _ (HK5.out) (fun hHeld => ?_)
          clear hK K hOld
          try simp only [Act.put, List.setIfInBounds_toArray, List.set_cons_zero, List.set_cons_succ]
          refine wpAnyH_ready (rs := [16]) (by kernel_rfl) (by simp) ?_
          refine AllReadyH.cons (o := { dst := some 92, op := Op.call { callee := Callee.value (Operand.func 11), args := #[Operand.tmp 85, Operand.tmp 87, Operand.tmp 89, Operand.tmp 91], argTypes := #[28, 3, 3, 3] }, type := 3, pos := "law.go:35", after := #[{ on := 9, ground := Ground.data }, { on := 11, ground := Ground.data }, { on := 13, ground := Ground.data }, { on := 15, ground := Ground.data }, { on := 8, ground := Ground.chain }], guard := none }) rfl (fun K hK => ?_) AllReadyH.nil
          have hOld := hide hHeld
          clear hHeld
          go_simp
          refine (HC2.out _ HR5.out).mono ?_
          rintro e w6 ⟨rfl, hr6, ho6⟩
          have HX6 := hide (HX5.out.onlyL ho6 P1.out.2.1.1 P1.out.2.1.2.1 P1.out.2.1.2.2.1 P1.out.2.1.2.2.2)
          have HR6 := hide hr6
          have HB6 := hide (ho6.below HB5.out (by have := P1.out; simp; omega) HB5.out.size)
          have HK6 := hide (show (fun W => W.cell? ⟨wr.heap.size, 1, none⟩ = some (.int .i64 xl) ∧ W.cell? ⟨wr.heap.size, 2, none⟩ = some (.int .i64 xb) ∧ W.cell? ⟨wr.heap.size, 3, none⟩ = some (.int .i64 xn) ∧ wr.heap.size < W.heap.size) w6 from ⟨(ho6.cell hOld.out.2.2.2 hnb).trans hOld.out.1, (ho6.cell hOld.out.2.2.2 hnb).trans hOld.out.2.1, (ho6.cell hOld.out.2.2.2 hnb).trans hOld.out.2.2.1, Nat.lt_of_lt_of_le hOld.out.2.2.2 ho6.size⟩)
          clear hr6 ho6
          (try go_wp2_with fail)
          refine hK.out _ _ (HK6.out) (fun hHeld => ?_)
          clear hK K hOld
          try simp only [Act.put, List.setIfInBounds_toArray, List.set_cons_zero, List.set_cons_succ]
          refine wpAnyH_take (i := 17) (oi := { dst := some 93, op := Op.binOp BinOp.eql 3 (Operand.tmp 84) (Operand.tmp 92) 3, type := 4, pos := "law.go:35", after := #[{ on := 8, ground := Ground.data }, { on := 16, ground := Ground.data }], guard := none }) (v := ?_) rfl (by kernel_rfl) (by kernel_rfl) (by kernel_rfl) (fun _ _ _ h => h) (Or.inl ⟨by kernel_rfl, ?_⟩) hHeld ?_
          rotate_left
          · (intro w hSw; (try dsimp only at hSw); go_simp); try with_reducible rfl
          try simp only [Act.put, List.setIfInBounds_toArray, List.set_cons_zero, List.set_cons_succ]
          refine wpAnyH_take (i := 18) (oi := { dst := some 13, op := Op.assign (Operand.tmp 93), type := 4, pos := "law.go:35", after := #[{ on := 17, ground := Ground.data }, { on := 16, ground := Ground.chain }, { on := 0, ground := Ground.phase }, { on := 1, ground := Ground.phase }, { on := 2, ground := Ground.phase }, { on := 3, ground := Ground.phase }, { on := 4, ground := Ground.phase }, { on := 5, ground := Ground.phase }, { on := 6, ground := Ground.phase }, { on := 7, ground := Ground.phase }, { on := 8, ground := Ground.phase }, { on := 9, ground := Ground.phase }, { on := 10, ground := Ground.phase }, { on := 11, ground := Ground.phase }, { on := 12, ground := Ground.phase }, { on := 13, ground := Ground.phase }, { on := 14, ground := Ground.phase }, { on := 15, ground := Ground.phase }, { on := 16, ground := Ground.phase }, { on := 17, ground := Ground.phase }], guard := none }) (v := ?_) rfl (by kernel_rfl) (by kernel_rfl) (by kernel_rfl) (fun _ _ _ h => h) (Or.inl ⟨by kernel_rfl, ?_⟩) hHeld ?_
          rotate_left
          · (intro w hSw; (try dsimp only at hSw); go_simp); try with_reducible rfl
          try simp only [Act.put, List.setIfInBounds_toArray, List.set_cons_zero, List.set_cons_succ]
          refine wpAnyH_done (by kernel_rfl) ?_ _
          clear HX5 HR5 HB5 HK5 HST HXA HRA HBA HC1 HC2 hHeld hna hnb HX HR HB HL d0 d1 d2 d3 hbw
          have HKB := hide (show w6.cell? ⟨wr.heap.size, 2, none⟩ = some (.int .i64 xb) from HK6.out.2.1)
          have HKA := hide (show wr.heap.size < w6.heap.size from HK6.out.2.2.2)
          generalize wr.heap.size = A at *
          clear HK6
          have HOKS := hide (ref_ok HX6.out)
          obtain ⟨-, -, g2⟩ := HR6.out.cells
          rw [HL'.out] at g2
          have HR0 := hide HR6.out.lt.1
          obtain ⟨wo, rfl⟩ : ∃ wo : World, wo = w6 := ⟨_, rfl⟩
          go_wp2_with fail
          go_loopw [108, 13, 14] (fun i ok tot W => ∃ j : Nat, j ≤ lg ∧ i = .int .i64 j ∧ ok = .bool true ∧ tot = .int .i64 (total (S'.take j) : Nat) ∧ Below wo.heap.size wo W) (fun i _ _ _ => lg - (intOf i).toNat)
          case atStart => exact ⟨0, by omega, rfl, rfl, by simp [total], Below.refl _ _⟩
          case round =>
            obtain ⟨j, hj, rfl, rfl, rfl, hB2⟩ := hrel
            have HB2 := hide hB2
            clear hB2 g2
            by_cases hlj : j < lg
            · have HT := hide (total_take (S := S') (k := j) (by rw [HL'.out]; exact hlj))
              have ht8 : total (S'.take j) ≤ 8 := by
                unfold total
                refine Nat.le_trans List.countP_le_length ?_
                rw [List.length_take]
                omega
              obtain ⟨e0, -⟩ := (HR6.out.below HB2.out).at j (by rw [HL'.out]; exact hlj) 0 (by omega)
              obtain ⟨e1, -⟩ := (HR6.out.below HB2.out).at j (by rw [HL'.out]; exact hlj) 1 (by omega)
              rw [Nat.add_zero] at e0
              have HXP := hide (fun (W : World) (hW : WhereAt W p q o l (pgs : Int) nb S') => pat_any hW j (by rw [HL'.out]; exact hlj))
              have hg := guard_place .eql
              cases hs : S'.getD j none with
              | none =>
                rw [hs] at e0 e1 HXP
                rw [hs] at HT
                simp only [refC, List.getElem?_cons_zero, List.getElem?_cons_succ] at e0 e1
                simp only [plZ, Option.getD_none, Option.isSome_none, Bool.false_eq_true, if_false, Nat.add_zero] at HXP HT
                have HXA := hide ((HX6.out.below HB2.out).below ((Below.refl wr.heap.size wr).alloc (Nat.le_refl _) (.cells #[.int .i64 (-1), .int .i64 (-1)] 42)))
                clear hs
                go_wp2_with fail
                refine (HXP.out _ HXA.out).mono ?_
                rintro e w7 ⟨rfl, hb7⟩
                have f0 : w7.cell? ⟨wr.heap.size, 0, none⟩ = some (.int .i64 (-1)) := by rw [hb7.cell (p := ⟨wr.heap.size, 0, none⟩) (by simp)]; simp [World.cell?_alloc_new]
                have f1 : wr.heap.size < w7.heap.size := Nat.lt_of_lt_of_le (by simp) hb7.size
                have HB7 := hide (below_trans (HB2.out.alloc HB2.out.size (.cells #[.int .i64 (-1), .int .i64 (-1)] 42)) hb7)
                have HB8 := hide (HB7.out.alloc HB7.out.size (.cells #[.int .i64 0, .int .i64 0] 35))
                generalize wr.heap.size = A2 at *
                clear hb7 e0 e1 HXA HB2 HXP HB7
                have hq : ∀ W, (binOp .eql 35 (.agg #[.int .i64 0, .int .i64 0]) (.agg #[.int .i64 0, .int .i64 0])).run Try.prog W = .ok (.bool true) W := fun W => by rw [eql_place]; simp
                go_wp2_with fail
                go_roundw
                case rel => exact ⟨j + 1, by omega, by go_num, rfl, by rw [HT.out], HB8.out⟩
                case measure => simp [intOf]; omega
              | some y =>
                obtain ⟨yb, yn⟩ := y
                have hj2 := getD_some hs
                have HOW := hide (ownZ_first hj2 (fun j' hj' e => by have := HX6.out.inj j' j (yb, yn) e hj2; omega))
                have hyo := HX6.out.ok j yb yn hj2
                rw [hs] at e0 e1 HXP
                rw [hs] at HT
                simp only [refC, List.getElem?_cons_zero, List.getElem?_cons_succ] at e0 e1
                simp only [plZ, Option.getD_some, Option.isSome_some, if_true] at HXP HT
                have HXA := hide ((HX6.out.below HB2.out).below ((Below.refl wr.heap.size wr).alloc (Nat.le_refl _) (.cells #[.int .i64 yb, .int .i64 yn] 42)))
                have HCO := hide (fun (W : World) (hW : WhereAt W p q o l (pgs : Int) nb S') => owner_any hW yb yn (by unfold I64; omega) (by unfold I64; omega))
                rw [HOW.out] at HCO
                have hy0 : 0 ≤ yb := by omega
                clear hs hj2 hyo
                generalize total (S'.take j) = tt at *
                go_wp2_with fail
                refine (HXP.out _ HXA.out).mono ?_
                rintro e w7 ⟨rfl, hb7⟩
                have f0 : w7.cell? ⟨wr.heap.size, 0, none⟩ = some (.int .i64 yb) := by rw [hb7.cell (p := ⟨wr.heap.size, 0, none⟩) (by simp)]; simp [World.cell?_alloc_new]
                have f2 : w7.cell? ⟨wr.heap.size, 1, none⟩ = some (.int .i64 yn) := by rw [hb7.cell (p := ⟨wr.heap.size, 1, none⟩) (by simp)]; simp [World.cell?_alloc_new]
                have f1 : wr.heap.size < w7.heap.size := Nat.lt_of_lt_of_le (by simp) hb7.size
                have HB7 := hide (below_trans (HB2.out.alloc HB2.out.size (.cells #[.int .i64 yb, .int .i64 yn] 42)) hb7)
                have HB8 := hide (HB7.out.alloc HB7.out.size (.cells #[.int .i64 yb, .int .i64 yn] 35))
                have HX8 := hide (HX6.out.below HB8.out)
                generalize wr.heap.size = A2 at *
                clear hb7 e0 e1 HXA HB2 HXP HB7
                have hq : ∀ W, (binOp .eql 35 (.agg #[.int .i64 yb, .int .i64 yn]) (.agg #[.int .i64 yb, .int .i64 yn])).run Try.prog W = .ok (.bool true) W := fun W => by rw [eql_place]; simp
                go_wp2_with fail
                refine (HCO.out _ HX8.out).mono ?_
                rintro e w9 ⟨rfl, hb9⟩
                have HB9 := hide (below_trans HB8.out hb9)
                clear hb9 HB8 HX8 f0 f1 f2 hq
                go_wp2_with fail
                go_roundw
                case rel => exact ⟨j + 1, by omega, by go_num, rfl, by rw [HT.out]; go_num, HB9.out⟩
                case measure => simp [intOf]; omega
            · obtain rfl : lg = j := by omega
              rw [List.take_of_length_le (Nat.le_of_eq HL'.out)]
              have HTT := hide (fun (W : World) (hW : WhereAt W p q o l (pgs : Int) nb S') => total_any hW)
              generalize total S' = tt at *
              obtain ⟨wp, rfl⟩ : ∃ wp : World, wp = wr := ⟨_, rfl⟩
              go_wp2_with fail
              go_loopw [156, 13] (fun i ok W => ∃ j : Nat, j ≤ nb ∧ i = .int .i64 j ∧ ok = .bool true ∧ Below wo.heap.size wo W) (fun i _ _ => nb - (intOf i).toNat)
              case atStart => exact ⟨0, by omega, rfl, rfl, HB2.out⟩
              case round =>
                clear HB2
                obtain ⟨k3, hk3, rfl, rfl, hB2⟩ := hrel
                have HB2 := hide hB2
                clear hB2
                by_cases h3 : k3 < nb
                · have HOF := hide (of_any (HX6.out.below HB2.out) (k3 : Int))
                  have HRF := hide (fun (W : World) (hW : RefW W r g rcap (nb : Int) (pgs : Int) S') => rof_any hW HOKS.out (by rw [HL'.out]; omega) (by omega) (k3 : Int))
                  have HLV := hide (fun (W : World) (hW : WhereAt W p q o l (pgs : Int) nb S') => plive_any hW (k3 : Int))
                  have hM : (ofL S' (k3 : Int) pgs).length ≤ 4 := by
                    unfold ofL
                    rw [List.length_map]
                    refine Nat.le_trans (List.length_filter_le _ _) ?_
                    simpa using pg4
                  generalize ofL S' (k3 : Int) pgs = M at *
                  go_wp2_with fail
                  refine HOF.out.mono ?_
                  rintro e w7 ⟨a1, cap1, rfl, ho1, hb7⟩
                  have HR7 := hide ((HR6.out.below HB2.out).below hb7)
                  have HO1 := hide ho1
                  have HB7 := hide (below_trans HB2.out hb7)
                  clear ho1 hb7 HOF HB2
                  go_wp2_with fail
                  refine (HRF.out _ HR7.out).mono ?_
                  rintro e w8 ⟨a2, cap2, rfl, ho2, hb8⟩
                  have HO3 := hide (owns_below HO1.out hb8)
                  have HO2 := hide ho2
                  have HB8 := hide (below_trans HB7.out hb8)
                  clear ho2 hb8 HRF HO1 HB7 HR7
                  go_wp2_with fail
                  refine (HLV.out _ (HX6.out.below HB8.out)).mono ?_
                  rintro e w9 ⟨rfl, rfl⟩
                  go_wp2_with fail
                  go_loopw [180, 13] (fun i ok W => ∃ c : Nat, c ≤ M.length ∧ i = .int .i64 c ∧ ok = .bool true ∧ Below w8.heap.size w8 W) (fun i _ _ => M.length - (intOf i).toNat)
                  case atStart => exact ⟨0, by omega, rfl, rfl, Below.refl _ _⟩
                  case round =>
                    obtain ⟨c, hc, rfl, rfl, hB4⟩ := hrel
                    have HB4 := hide hB4
                    clear hB4
                    by_cases h4 : c < M.length
                    · obtain ⟨g1, rfl, u0, u1⟩ := owns_ints (owns_below HO3.out HB4.out) c h4
                      obtain ⟨g3, rfl, v0, v1⟩ := owns_ints (owns_below HO2.out HB4.out) c h4
                      generalize M.getD c 0 = mc at *
                      go_wp2_with fail
                      go_quiet (fail)
                      go_wp2_with fail
                      go_roundw
                      case rel => exact ⟨c + 1, by omega, by go_num, rfl, HB4.out.drewN _⟩
                      case measure => simp [intOf]; omega
                    · have HB9 := hide (below_trans HB8.out HB4.out)
                      clear HB8 HB4 HO3 HO2 HLV
                      go_wp2_with fail
                      go_roundw
                      case rel => exact ⟨k3 + 1, by omega, by go_num, rfl, HB9.out⟩
                      case measure => simp [intOf]; omega
                · obtain rfl : nb = k3 := by omega
                  have HON := hide (show ∀ n : Int, owner S' ((nb : Int), n) = none from fun n => by
                    cases ho : owner S' ((nb : Int), n) with
                    | none => rfl
                    | some i => exfalso; have := HX6.out.ok i (nb : Int) n (owner_some ho); omega)
                  have HON2 := hide (show ∀ n : Int, owner S' (-1, n) = none from fun n => by
                    cases ho : owner S' (-1, n) with
                    | none => rfl
                    | some i => exfalso; have := HX6.out.ok i (-1) n (owner_some ho); omega)
                  have HOZ := hide (show ownZ S' xb (-1) = -1 from ownZ_none (fun i hi e => by have := HX6.out.ok i xb (-1) e; omega))
                  have HL1 := hide (fun (W : World) (hW : WhereAt W p q o l (pgs : Int) nb S') => plive_any hW (nb : Int))
                  have HL2 := hide (fun (W : World) (hW : WhereAt W p q o l (pgs : Int) nb S') => plive_any hW (-1))
                  have HOF := hide (fun (W : World) (hW : WhereAt W p q o l (pgs : Int) nb S') => of_any hW (nb : Int))
                  have HOW := hide (fun (W : World) (hW : WhereAt W p q o l (pgs : Int) nb S') => owner_any hW xb (-1) HI.out.2.2.1 (by unfold I64; omega))
                  rw [ofL_none HON.out] at HL1 HOF
                  rw [ofL_none HON2.out] at HL2
                  rw [HOZ.out] at HOW
                  simp only [List.length_nil] at HL1 HL2
                  go_wp2_with fail
                  refine (at_no (HX6.out.below HB2.out) (lg : Int) (by rw [HL'.out]; omega)).mono ?_
                  rintro e w7 ⟨rfl, hb7⟩
                  have HB7 := hide (below_trans HB2.out hb7)
                  have HB8 := hide (HB7.out.alloc HB7.out.size (.cells #[.int .i64 0, .int .i64 0] 35))
                  clear hb7 HB2 HB7 HON HON2 HOZ
                  go_wp2_with fail
                  generalize w7.alloc (.cells #[.int .i64 0, .int .i64 0] 35) = w8 at *
                  generalize w7.heap.size = A7 at *
                  refine (HTT.out _ (HX6.out.below HB8.out)).mono ?_
                  rintro e w9 ⟨rfl, rfl⟩
                  go_wp2_with fail
                  refine (HL1.out _ (HX6.out.below HB8.out)).mono ?_
                  rintro e w9 ⟨rfl, rfl⟩
                  go_wp2_with fail
                  refine (HL2.out _ (HX6.out.below HB8.out)).mono ?_
                  rintro e w9 ⟨rfl, rfl⟩
                  go_wp2_with fail
                  refine (HOF.out _ (HX6.out.below HB8.out)).mono ?_
                  rintro e w9 ⟨a9, cap9, rfl, -, hb9⟩
                  have HB9 := hide (below_trans HB8.out hb9)
                  have k2 : w9.cell? ⟨A, 2, none⟩ = some (.int .i64 xb) := (HB9.out.cell (p := ⟨A, 2, none⟩) HKA.out).trans HKB.out
                  simp only [List.length_nil]
                  clear hb9 HB8
                  go_wp2_with fail
                  refine (HOW.out _ (HX6.out.below HB9.out)).mono ?_
                  rintro e w10 ⟨rfl, hb10⟩
                  have HB10 := hide (below_trans HB9.out hb10)
                  clear hb10 k2
                  go_wp2_with fail
                  go_roundw
                  case rel => exact ⟨k + 1, S', by omega, by go_num, HL'.out, HX6.out.below HB10.out, HR6.out.below HB10.out, below_trans HB6.out HB10.out⟩
                  case measure => simp [intOf]; omega
      · as_aux_lemma =>
          have hct : ¬ mw.tmod 4 < 3 := by rw [← y5]; exact hcs
          have HXA := hide (HX.out.below ((Below.refl wr.heap.size wr).alloc (Nat.le_refl _) (.cells #[.int .i64 xd, .int .i64 xl, .int .i64 xb, .int .i64 xn] 32)))
          have HRA := hide (HR.out.below ((Below.refl wr.heap.size wr).alloc (Nat.le_refl _) (.cells #[.int .i64 xd, .int .i64 xl, .int .i64 xb, .int .i64 xn] 32)))
          have HBA := hide (HB.out.alloc HB.out.size (.cells #[.int .i64 xd, .int .i64 xl, .int .i64 xb, .int .i64 xn] 32))
          have hna : wr.heap.size ∉ [q, o, l] := by
            have := HX.out.lt
            simp only [List.mem_cons, List.not_mem_nil, or_false, not_or]
            omega
          have hnb : wr.heap.size ∉ [g] := by
            have := HR.out.lt
            simp only [List.mem_cons, List.not_mem_nil, or_false, not_or]
            omega
          have HST : Hid ((fun W => W.cell? ⟨wr.heap.size, 1, none⟩ = some (.int .i64 xl) ∧ W.cell? ⟨wr.heap.size, 2, none⟩ = some (.int .i64 xb) ∧ W.cell? ⟨wr.heap.size, 3, none⟩ = some (.int .i64 xn) ∧ wr.heap.size < W.heap.size) (wr.alloc (.cells #[.int .i64 xd, .int .i64 xl, .int .i64 xb, .int .i64 xn] 32)).drew) := hide ⟨by show (wr.alloc _).cell? _ = _; simp [World.cell?_alloc_new], by show (wr.alloc _).cell? _ = _; simp [World.cell?_alloc_new], by show (wr.alloc _).cell? _ = _; simp [World.cell?_alloc_new], by show _ < (wr.alloc _).heap.size; simp⟩
          have HL' := hide ((dropT_len S xl).trans HL.out)
          have HC1 := hide (fun (W : World) (hW : WhereAt W p q o l (pgs : Int) nb S) => pdrop_any hW xl)
          have HC2 := hide (fun (W : World) (hW : RefW W r g rcap (nb : Int) (pgs : Int) S) => rdrop_any hW (by rw [HL.out]; omega) xl)
          generalize dropZ S xl = E at *
          generalize dropT S xl = S' at *
          clear y5
          go_upto_region 12 with (fail)
          refine wp_region_held_drew (S := (fun W => W.cell? ⟨wr.heap.size, 1, none⟩ = some (.int .i64 xl) ∧ W.cell? ⟨wr.heap.size, 2, none⟩ = some (.int .i64 xb) ∧ W.cell? ⟨wr.heap.size, 3, none⟩ = some (.int .i64 xn) ∧ wr.heap.size < W.heap.size)) (by kernel_rfl) (HST.out) (fun hHeld => ?_)
          refine wpAnyH_take (i := 0) (oi := { dst := some 94, op := Op.move (Operand.tmp 8), type := 24, pos := "law.go:37", after := #[], guard := none }) (v := ?_) rfl (by kernel_rfl) (by kernel_rfl) (by kernel_rfl) (fun _ _ _ h => h) (Or.inl ⟨by kernel_rfl, ?_⟩) hHeld ?_
          rotate_left
          · (intro w hSw; (try dsimp only at hSw); go_simp); try with_reducible rfl
          try simp only [Act.put, List.setIfInBounds_toArray, List.set_cons_zero, List.set_cons_succ]
          refine wpAnyH_take (i := 1) (oi := { dst := some 95, op := Op.fieldAddr 32 (Operand.tmp 12) 1, type := 0, pos := "law.go:37", after := #[], guard := none }) (v := ?_) rfl (by kernel_rfl) (by kernel_rfl) (by kernel_rfl) (fun _ _ _ h => h) (Or.inl ⟨by kernel_rfl, ?_⟩) hHeld ?_
          rotate_left
          · (intro w hSw; (try dsimp only at hSw); go_simp); try with_reducible rfl
          try simp only [Act.put, List.setIfInBounds_toArray, List.set_cons_zero, List.set_cons_succ]
          refine wpAnyH_take (i := 2) (oi := { dst := some 96, op := Op.load 3 (Operand.tmp 95), type := 3, pos := "law.go:37", after := #[{ on := 1, ground := Ground.data }], guard := none }) (v := ?_) rfl (by kernel_rfl) (by kernel_rfl) (by kernel_rfl) (fun _ _ _ h => h) (Or.inl ⟨by kernel_rfl, ?_⟩) hHeld ?_
          rotate_left
          · (intro w hSw; (try dsimp only at hSw); go_simp); try with_reducible rfl
          try simp only [Act.put, List.setIfInBounds_toArray, List.set_cons_zero, List.set_cons_succ]
          refine wpAnyH_take (i := 4) (oi := { dst := some 98, op := Op.move (Operand.tmp 10), type := 28, pos := "law.go:37", after := #[], guard := none }) (v := ?_) rfl (by kernel_rfl) (by kernel_rfl) (by kernel_rfl) (fun _ _ _ h => h) (Or.inl ⟨by kernel_rfl, ?_⟩) hHeld ?_
          rotate_left
          · (intro w hSw; (try dsimp only at hSw); go_simp); try with_reducible rfl
          try simp only [Act.put, List.setIfInBounds_toArray, List.set_cons_zero, List.set_cons_succ]
          refine wpAnyH_take (i := 5) (oi := { dst := some 99, op := Op.fieldAddr 32 (Operand.tmp 12) 1, type := 0, pos := "law.go:37", after := #[], guard := none }) (v := ?_) rfl (by kernel_rfl) (by kernel_rfl) (by kernel_rfl) (fun _ _ _ h => h) (Or.inl ⟨by kernel_rfl, ?_⟩) hHeld ?_
          rotate_left
          · (intro w hSw; (try dsimp only at hSw); go_simp); try with_reducible rfl
          try simp only [Act.put, List.setIfInBounds_toArray, List.set_cons_zero, List.set_cons_succ]
          refine wpAnyH_take (i := 6) (oi := { dst := some 100, op := Op.load 3 (Operand.tmp 99), type := 3, pos := "law.go:37", after := #[{ on := 5, ground := Ground.data }], guard := none }) (v := ?_) rfl (by kernel_rfl) (by kernel_rfl) (by kernel_rfl) (fun _ _ _ h => h) (Or.inl ⟨by kernel_rfl, ?_⟩) hHeld ?_
          rotate_left
          · (intro w hSw; (try dsimp only at hSw); go_simp); try with_reducible rfl
          try simp only [Act.put, List.setIfInBounds_toArray, List.set_cons_zero, List.set_cons_succ]
          refine wpAnyH_ready (rs := [3]) (by kernel_rfl) (by simp) ?_
          refine AllReadyH.cons (o := { dst := some 97, op := Op.call { callee := Callee.value (Operand.func 12), args := #[Operand.tmp 94, Operand.tmp 96], argTypes := #[24, 3] }, type := 25, pos := "law.go:37", after := #[{ on := 0, ground := Ground.data }, { on := 2, ground := Ground.data }], guard := none }) rfl (fun K hK => ?_) AllReadyH.nil
          have hOld := hide hHeld
          clear hHeld
          go_simp
          refine (HC1.out _ HXA.out.drew).mono ?_
          rintro e w5 ⟨rfl, hx5, ho5⟩
          have HX5 := hide hx5
          have HR5 := hide ((HRA.out.drewN 1).onlyL ho5 P1.out.1.1 P1.out.1.2)
          have HB5 := hide (ho5.below (HBA.out.drewN 1) (by have := P0.out; simp; omega) HBA.out.size)
          have HK5 := hide (show (fun W => W.cell? ⟨wr.heap.size, 1, none⟩ = some (.int .i64 xl) ∧ W.cell? ⟨wr.heap.size, 2, none⟩ = some (.int .i64 xb) ∧ W.cell? ⟨wr.heap.size, 3, none⟩ = some (.int .i64 xn) ∧ wr.heap.size < W.heap.size) w5 from ⟨(ho5.cell hOld.out.2.2.2 hna).trans hOld.out.1, (ho5.cell hOld.out.2.2.2 hna).trans hOld.out.2.1, (ho5.cell hOld.out.2.2.2 hna).trans hOld.out.2.2.1, Nat.lt_of_lt_of_le hOld.out.2.2.2 ho5.size⟩)
          clear hx5 ho5
          (try go_wp2_with fail)
          refine hK.out _ _ (HK5.out) (fun hHeld => ?_)
          clear hK K hOld
          try simp only [Act.put, List.setIfInBounds_toArray, List.set_cons_zero, List.set_cons_succ]
          refine wpAnyH_ready (rs := [7]) (by kernel_rfl) (by simp) ?_
          refine AllReadyH.cons (o := { dst := some 101, op := Op.call { callee := Callee.value (Operand.func 13), args := #[Operand.tmp 98, Operand.tmp 100], argTypes := #[28, 3] }, type := 3, pos := "law.go:37", after := #[{ on := 4, ground := Ground.data }, { on := 6, ground := Ground.data }, { on := 3, ground := Ground.chain }], guard := none }) rfl (fun K hK => ?_) AllReadyH.nil
          have hOld := hide hHeld
          clear hHeld
          go_simp
          refine (HC2.out _ HR5.out).mono ?_
          rintro e w6 ⟨rfl, hr6, ho6⟩
          have HX6 := hide (HX5.out.onlyL ho6 P1.out.2.1.1 P1.out.2.1.2.1 P1.out.2.1.2.2.1 P1.out.2.1.2.2.2)
          have HR6 := hide hr6
          have HB6 := hide (ho6.below HB5.out (by have := P1.out; simp; omega) HB5.out.size)
          have HK6 := hide (show (fun W => W.cell? ⟨wr.heap.size, 1, none⟩ = some (.int .i64 xl) ∧ W.cell? ⟨wr.heap.size, 2, none⟩ = some (.int .i64 xb) ∧ W.cell? ⟨wr.heap.size, 3, none⟩ = some (.int .i64 xn) ∧ wr.heap.size < W.heap.size) w6 from ⟨(ho6.cell hOld.out.2.2.2 hnb).trans hOld.out.1, (ho6.cell hOld.out.2.2.2 hnb).trans hOld.out.2.1, (ho6.cell hOld.out.2.2.2 hnb).trans hOld.out.2.2.1, Nat.lt_of_lt_of_le hOld.out.2.2.2 ho6.size⟩)
          clear hr6 ho6
          (try go_wp2_with fail)
          refine hK.out _ _ (HK6.out) (fun hHeld => ?_)
          clear hK K hOld
          try simp only [Act.put, List.setIfInBounds_toArray, List.set_cons_zero, List.set_cons_succ]
          refine wpAnyH_take (i := 8) (oi := { dst := some 102, op := Op.binOp BinOp.eql 3 (Operand.tmp 97) (Operand.tmp 101) 3, type := 4, pos := "law.go:37", after := #[{ on := 3, ground := Ground.data }, { on := 7, ground := Ground.data }], guard := none }) (v := ?_) rfl (by kernel_rfl) (by kernel_rfl) (by kernel_rfl) (fun _ _ _ h => h) (Or.inl ⟨by kernel_rfl, ?_⟩) hHeld ?_
          rotate_left
          · (intro w hSw; (try dsimp only at hSw); go_simp); try with_reducible rfl
          try simp only [Act.put, List.setIfInBounds_toArray, List.set_cons_zero, List.set_cons_succ]
          refine wpAnyH_take (i := 9) (oi := { dst := some 13, op := Op.assign (Operand.tmp 102), type := 4, pos := "law.go:37", after := #[{ on := 8, ground := Ground.data }, { on := 7, ground := Ground.chain }, { on := 0, ground := Ground.phase }, { on := 1, ground := Ground.phase }, { on := 2, ground := Ground.phase }, { on := 3, ground := Ground.phase }, { on := 4, ground := Ground.phase }, { on := 5, ground := Ground.phase }, { on := 6, ground := Ground.phase }, { on := 7, ground := Ground.phase }, { on := 8, ground := Ground.phase }], guard := none }) (v := ?_) rfl (by kernel_rfl) (by kernel_rfl) (by kernel_rfl) (fun _ _ _ h => h) (Or.inl ⟨by kernel_rfl, ?_⟩) hHeld ?_
          rotate_left
          · (intro w hSw; (try dsimp only at hSw); go_simp); try with_reducible rfl
          try simp only [Act.put, List.setIfInBounds_toArray, List.set_cons_zero, List.set_cons_succ]
          refine wpAnyH_done (by kernel_rfl) ?_ _
          clear HX5 HR5 HB5 HK5 HST HXA HRA HBA HC1 HC2 hHeld hna hnb HX HR HB HL d0 d1 d2 d3 hbw
          have HKB := hide (show w6.cell? ⟨wr.heap.size, 2, none⟩ = some (.int .i64 xb) from HK6.out.2.1)
          have HKA := hide (show wr.heap.size < w6.heap.size from HK6.out.2.2.2)
          generalize wr.heap.size = A at *
          clear HK6
          have HOKS := hide (ref_ok HX6.out)
          obtain ⟨-, -, g2⟩ := HR6.out.cells
          rw [HL'.out] at g2
          have HR0 := hide HR6.out.lt.1
          obtain ⟨wo, rfl⟩ : ∃ wo : World, wo = w6 := ⟨_, rfl⟩
          go_wp2_with fail
          go_loopw [108, 13, 14] (fun i ok tot W => ∃ j : Nat, j ≤ lg ∧ i = .int .i64 j ∧ ok = .bool true ∧ tot = .int .i64 (total (S'.take j) : Nat) ∧ Below wo.heap.size wo W) (fun i _ _ _ => lg - (intOf i).toNat)
          case atStart => exact ⟨0, by omega, rfl, rfl, by simp [total], Below.refl _ _⟩
          case round =>
            obtain ⟨j, hj, rfl, rfl, rfl, hB2⟩ := hrel
            have HB2 := hide hB2
            clear hB2 g2
            by_cases hlj : j < lg
            · have HT := hide (total_take (S := S') (k := j) (by rw [HL'.out]; exact hlj))
              have ht8 : total (S'.take j) ≤ 8 := by
                unfold total
                refine Nat.le_trans List.countP_le_length ?_
                rw [List.length_take]
                omega
              obtain ⟨e0, -⟩ := (HR6.out.below HB2.out).at j (by rw [HL'.out]; exact hlj) 0 (by omega)
              obtain ⟨e1, -⟩ := (HR6.out.below HB2.out).at j (by rw [HL'.out]; exact hlj) 1 (by omega)
              rw [Nat.add_zero] at e0
              have HXP := hide (fun (W : World) (hW : WhereAt W p q o l (pgs : Int) nb S') => pat_any hW j (by rw [HL'.out]; exact hlj))
              have hg := guard_place .eql
              cases hs : S'.getD j none with
              | none =>
                rw [hs] at e0 e1 HXP
                rw [hs] at HT
                simp only [refC, List.getElem?_cons_zero, List.getElem?_cons_succ] at e0 e1
                simp only [plZ, Option.getD_none, Option.isSome_none, Bool.false_eq_true, if_false, Nat.add_zero] at HXP HT
                have HXA := hide ((HX6.out.below HB2.out).below ((Below.refl wr.heap.size wr).alloc (Nat.le_refl _) (.cells #[.int .i64 (-1), .int .i64 (-1)] 42)))
                clear hs
                go_wp2_with fail
                refine (HXP.out _ HXA.out).mono ?_
                rintro e w7 ⟨rfl, hb7⟩
                have f0 : w7.cell? ⟨wr.heap.size, 0, none⟩ = some (.int .i64 (-1)) := by rw [hb7.cell (p := ⟨wr.heap.size, 0, none⟩) (by simp)]; simp [World.cell?_alloc_new]
                have f1 : wr.heap.size < w7.heap.size := Nat.lt_of_lt_of_le (by simp) hb7.size
                have HB7 := hide (below_trans (HB2.out.alloc HB2.out.size (.cells #[.int .i64 (-1), .int .i64 (-1)] 42)) hb7)
                have HB8 := hide (HB7.out.alloc HB7.out.size (.cells #[.int .i64 0, .int .i64 0] 35))
                generalize wr.heap.size = A2 at *
                clear hb7 e0 e1 HXA HB2 HXP HB7
                have hq : ∀ W, (binOp .eql 35 (.agg #[.int .i64 0, .int .i64 0]) (.agg #[.int .i64 0, .int .i64 0])).run Try.prog W = .ok (.bool true) W := fun W => by rw [eql_place]; simp
                go_wp2_with fail
                go_roundw
                case rel => exact ⟨j + 1, by omega, by go_num, rfl, by rw [HT.out], HB8.out⟩
                case measure => simp [intOf]; omega
              | some y =>
                obtain ⟨yb, yn⟩ := y
                have hj2 := getD_some hs
                have HOW := hide (ownZ_first hj2 (fun j' hj' e => by have := HX6.out.inj j' j (yb, yn) e hj2; omega))
                have hyo := HX6.out.ok j yb yn hj2
                rw [hs] at e0 e1 HXP
                rw [hs] at HT
                simp only [refC, List.getElem?_cons_zero, List.getElem?_cons_succ] at e0 e1
                simp only [plZ, Option.getD_some, Option.isSome_some, if_true] at HXP HT
                have HXA := hide ((HX6.out.below HB2.out).below ((Below.refl wr.heap.size wr).alloc (Nat.le_refl _) (.cells #[.int .i64 yb, .int .i64 yn] 42)))
                have HCO := hide (fun (W : World) (hW : WhereAt W p q o l (pgs : Int) nb S') => owner_any hW yb yn (by unfold I64; omega) (by unfold I64; omega))
                rw [HOW.out] at HCO
                have hy0 : 0 ≤ yb := by omega
                clear hs hj2 hyo
                generalize total (S'.take j) = tt at *
                go_wp2_with fail
                refine (HXP.out _ HXA.out).mono ?_
                rintro e w7 ⟨rfl, hb7⟩
                have f0 : w7.cell? ⟨wr.heap.size, 0, none⟩ = some (.int .i64 yb) := by rw [hb7.cell (p := ⟨wr.heap.size, 0, none⟩) (by simp)]; simp [World.cell?_alloc_new]
                have f2 : w7.cell? ⟨wr.heap.size, 1, none⟩ = some (.int .i64 yn) := by rw [hb7.cell (p := ⟨wr.heap.size, 1, none⟩) (by simp)]; simp [World.cell?_alloc_new]
                have f1 : wr.heap.size < w7.heap.size := Nat.lt_of_lt_of_le (by simp) hb7.size
                have HB7 := hide (below_trans (HB2.out.alloc HB2.out.size (.cells #[.int .i64 yb, .int .i64 yn] 42)) hb7)
                have HB8 := hide (HB7.out.alloc HB7.out.size (.cells #[.int .i64 yb, .int .i64 yn] 35))
                have HX8 := hide (HX6.out.below HB8.out)
                generalize wr.heap.size = A2 at *
                clear hb7 e0 e1 HXA HB2 HXP HB7
                have hq : ∀ W, (binOp .eql 35 (.agg #[.int .i64 yb, .int .i64 yn]) (.agg #[.int .i64 yb, .int .i64 yn])).run Try.prog W = .ok (.bool true) W := fun W => by rw [eql_place]; simp
                go_wp2_with fail
                refine (HCO.out _ HX8.out).mono ?_
                rintro e w9 ⟨rfl, hb9⟩
                have HB9 := hide (below_trans HB8.out hb9)
                clear hb9 HB8 HX8 f0 f1 f2 hq
                go_wp2_with fail
                go_roundw
                case rel => exact ⟨j + 1, by omega, by go_num, rfl, by rw [HT.out]; go_num, HB9.out⟩
                case measure => simp [intOf]; omega
            · obtain rfl : lg = j := by omega
              rw [List.take_of_length_le (Nat.le_of_eq HL'.out)]
              have HTT := hide (fun (W : World) (hW : WhereAt W p q o l (pgs : Int) nb S') => total_any hW)
              generalize total S' = tt at *
              obtain ⟨wp, rfl⟩ : ∃ wp : World, wp = wr := ⟨_, rfl⟩
              go_wp2_with fail
              go_loopw [156, 13] (fun i ok W => ∃ j : Nat, j ≤ nb ∧ i = .int .i64 j ∧ ok = .bool true ∧ Below wo.heap.size wo W) (fun i _ _ => nb - (intOf i).toNat)
              case atStart => exact ⟨0, by omega, rfl, rfl, HB2.out⟩
              case round =>
                clear HB2
                obtain ⟨k3, hk3, rfl, rfl, hB2⟩ := hrel
                have HB2 := hide hB2
                clear hB2
                by_cases h3 : k3 < nb
                · have HOF := hide (of_any (HX6.out.below HB2.out) (k3 : Int))
                  have HRF := hide (fun (W : World) (hW : RefW W r g rcap (nb : Int) (pgs : Int) S') => rof_any hW HOKS.out (by rw [HL'.out]; omega) (by omega) (k3 : Int))
                  have HLV := hide (fun (W : World) (hW : WhereAt W p q o l (pgs : Int) nb S') => plive_any hW (k3 : Int))
                  have hM : (ofL S' (k3 : Int) pgs).length ≤ 4 := by
                    unfold ofL
                    rw [List.length_map]
                    refine Nat.le_trans (List.length_filter_le _ _) ?_
                    simpa using pg4
                  generalize ofL S' (k3 : Int) pgs = M at *
                  go_wp2_with fail
                  refine HOF.out.mono ?_
                  rintro e w7 ⟨a1, cap1, rfl, ho1, hb7⟩
                  have HR7 := hide ((HR6.out.below HB2.out).below hb7)
                  have HO1 := hide ho1
                  have HB7 := hide (below_trans HB2.out hb7)
                  clear ho1 hb7 HOF HB2
                  go_wp2_with fail
                  refine (HRF.out _ HR7.out).mono ?_
                  rintro e w8 ⟨a2, cap2, rfl, ho2, hb8⟩
                  have HO3 := hide (owns_below HO1.out hb8)
                  have HO2 := hide ho2
                  have HB8 := hide (below_trans HB7.out hb8)
                  clear ho2 hb8 HRF HO1 HB7 HR7
                  go_wp2_with fail
                  refine (HLV.out _ (HX6.out.below HB8.out)).mono ?_
                  rintro e w9 ⟨rfl, rfl⟩
                  go_wp2_with fail
                  go_loopw [180, 13] (fun i ok W => ∃ c : Nat, c ≤ M.length ∧ i = .int .i64 c ∧ ok = .bool true ∧ Below w8.heap.size w8 W) (fun i _ _ => M.length - (intOf i).toNat)
                  case atStart => exact ⟨0, by omega, rfl, rfl, Below.refl _ _⟩
                  case round =>
                    obtain ⟨c, hc, rfl, rfl, hB4⟩ := hrel
                    have HB4 := hide hB4
                    clear hB4
                    by_cases h4 : c < M.length
                    · obtain ⟨g1, rfl, u0, u1⟩ := owns_ints (owns_below HO3.out HB4.out) c h4
                      obtain ⟨g3, rfl, v0, v1⟩ := owns_ints (owns_below HO2.out HB4.out) c h4
                      generalize M.getD c 0 = mc at *
                      go_wp2_with fail
                      go_quiet (fail)
                      go_wp2_with fail
                      go_roundw
                      case rel => exact ⟨c + 1, by omega, by go_num, rfl, HB4.out.drewN _⟩
                      case measure => simp [intOf]; omega
                    · have HB9 := hide (below_trans HB8.out HB4.out)
                      clear HB8 HB4 HO3 HO2 HLV
                      go_wp2_with fail
                      go_roundw
                      case rel => exact ⟨k3 + 1, by omega, by go_num, rfl, HB9.out⟩
                      case measure => simp [intOf]; omega
                · obtain rfl : nb = k3 := by omega
                  have HON := hide (show ∀ n : Int, owner S' ((nb : Int), n) = none from fun n => by
                    cases ho : owner S' ((nb : Int), n) with
                    | none => rfl
                    | some i => exfalso; have := HX6.out.ok i (nb : Int) n (owner_some ho); omega)
                  have HON2 := hide (show ∀ n : Int, owner S' (-1, n) = none from fun n => by
                    cases ho : owner S' (-1, n) with
                    | none => rfl
                    | some i => exfalso; have := HX6.out.ok i (-1) n (owner_some ho); omega)
                  have HOZ := hide (show ownZ S' xb (-1) = -1 from ownZ_none (fun i hi e => by have := HX6.out.ok i xb (-1) e; omega))
                  have HL1 := hide (fun (W : World) (hW : WhereAt W p q o l (pgs : Int) nb S') => plive_any hW (nb : Int))
                  have HL2 := hide (fun (W : World) (hW : WhereAt W p q o l (pgs : Int) nb S') => plive_any hW (-1))
                  have HOF := hide (fun (W : World) (hW : WhereAt W p q o l (pgs : Int) nb S') => of_any hW (nb : Int))
                  have HOW := hide (fun (W : World) (hW : WhereAt W p q o l (pgs : Int) nb S') => owner_any hW xb (-1) HI.out.2.2.1 (by unfold I64; omega))
                  rw [ofL_none HON.out] at HL1 HOF
                  rw [ofL_none HON2.out] at HL2
                  rw [HOZ.out] at HOW
                  simp only [List.length_nil] at HL1 HL2
                  go_wp2_with fail
                  refine (at_no (HX6.out.below HB2.out) (lg : Int) (by rw [HL'.out]; omega)).mono ?_
                  rintro e w7 ⟨rfl, hb7⟩
                  have HB7 := hide (below_trans HB2.out hb7)
                  have HB8 := hide (HB7.out.alloc HB7.out.size (.cells #[.int .i64 0, .int .i64 0] 35))
                  clear hb7 HB2 HB7 HON HON2 HOZ
                  go_wp2_with fail
                  generalize w7.alloc (.cells #[.int .i64 0, .int .i64 0] 35) = w8 at *
                  generalize w7.heap.size = A7 at *
                  refine (HTT.out _ (HX6.out.below HB8.out)).mono ?_
                  rintro e w9 ⟨rfl, rfl⟩
                  go_wp2_with fail
                  refine (HL1.out _ (HX6.out.below HB8.out)).mono ?_
                  rintro e w9 ⟨rfl, rfl⟩
                  go_wp2_with fail
                  refine (HL2.out _ (HX6.out.below HB8.out)).mono ?_
                  rintro e w9 ⟨rfl, rfl⟩
                  go_wp2_with fail
                  refine (HOF.out _ (HX6.out.below HB8.out)).mono ?_
                  rintro e w9 ⟨a9, cap9, rfl, -, hb9⟩
                  have HB9 := hide (below_trans HB8.out hb9)
                  have k2 : w9.cell? ⟨A, 2, none⟩ = some (.int .i64 xb) := (HB9.out.cell (p := ⟨A, 2, none⟩) HKA.out).trans HKB.out
                  simp only [List.length_nil]
                  clear hb9 HB8
                  go_wp2_with fail
                  refine (HOW.out _ (HX6.out.below HB9.out)).mono ?_
                  rintro e w10 ⟨rfl, hb10⟩
                  have HB10 := hide (below_trans HB9.out hb10)
                  clear hb10 k2
                  go_wp2_with fail
                  go_roundw
                  case rel => exact ⟨k + 1, S', by omega, by go_num, HL'.out, HX6.out.below HB10.out, HR6.out.below HB10.out, below_trans HB6.out HB10.out⟩
                  case measure => simp [intOf]; omega
    · obtain rfl : k = L.length := by omega
      clear hx hr hL hB
      go_wp2
      go_ret
      exact ⟨rfl, HB.out⟩
end Go.Proofs.Ytfkilcpnjnmnmaa
