/-
  Layer 15's laws: wakes; blocks that come in; a part of a slice of numbers.
-/
import Derived.Test.YtpgogdnjddeagaaVic5
import Derived.Test.YtpgogdnjddeagaaKitE
--import Derived.Test.Zdbg
namespace Go.Proofs.Ytpgogdnjddeagaa
set_option linter.unusedSimpArgs false
set_option linter.unusedVariables false
open Go.RowKit Go.WideShapes Go.ChangeShapes Go.ChangeAt Go.Deep W

def bqC (a : BQ) : List Value := [.int .i64 a.st, .int .i64 a.we, .int .i64 a.li]
set_option maxRecDepth 100000 in
theorem open_bqs {H : Type} {enc : TypeId × Value → H} {w : World} {base : Nat} {sp : Nat → Bool} {held : Bool} {r : Reach} {b0 : Nat} {v : Value} {d : DataW H} {ps : List MemPlace}
    (hv : Value.okWide Try.prog w r b0 22 v) (h : DataW.Trod enc Try.prog w base sp held 22 v d ps) :
    ∃ (a : Option Addr) (L : List BQ) (cap : Nat), v = .slice a L.length cap ∧ L.length ≤ cap ∧ L.length ≤ 9223372036854775807 ∧ BqIn w a L ∧ ∀ x ∈ L, BqOk x := by
  obtain ⟨L, ⟨a, cap, rfl, hm, hc, _, hat⟩, hty⟩ := open_rows [.int .i64, .int .i64, .int .i64] Try.underlying22 Try.underlying53 (by kernel_rfl) (by kernel_rfl) (by decide) rfl (fun j hj => by
    have : j = 0 ∨ j = 1 ∨ j = 2 := by simp at hj; omega
    rcases this with rfl | rfl | rfl <;> rfl) hv h
  obtain ⟨M, rfl, hM⟩ := rows_typed bqC BqOk L (fun x hx => by
    obtain ⟨hl, hcell⟩ := hty x hx
    match x, (show x.length = 3 from hl), hcell with
    | [x0, x1, x2], _, hcell =>
      obtain ⟨k, rfl, hk⟩ := hcell 0 _ _ rfl rfl
      obtain ⟨b, rfl, hb⟩ := hcell 1 _ _ rfl rfl
      obtain ⟨n, rfl, hn⟩ := hcell 2 _ _ rfl rfl
      exact ⟨⟨k, b, n⟩, rfl, wf_i64 hk, wf_i64 hb, wf_i64 hn⟩)
  refine ⟨a, M, cap, by rw [List.length_map], by simpa using hc, by unfold maxLen at hm; simpa using hm, fun i hi => ?_, hM⟩
  obtain ⟨b, off, ha, hb, hcs⟩ := hat i (by simpa using hi)
  have e := getD_map bqC M bq0 i hi
  rw [e] at hcs
  refine ⟨b, off, ha, hb, ?_, ?_, ?_⟩
  · have := hcs 0 (show 0 < 3 by decide)
    rw [Nat.add_zero] at this
    exact this
  · have := hcs 1 (show 1 < 3 by decide)
    rw [← Nat.add_assoc] at this
    exact this
  · have := hcs 2 (show 2 < 3 by decide)
    rw [← Nat.add_assoc] at this
    exact this
theorem nums_take {w : World} {k : IntKind} {a : Option Addr} {cap : Nat} {zs : List Int} (h : NumsAt w k (.slice a zs.length cap) zs) (j : Nat) (hj : j ≤ zs.length) : NumsAt w k (.slice a (zs.take j).length cap) (zs.take j) := by
  have hl : (zs.take j).length = j := by rw [List.length_take]; omega
  rcases h with ⟨e, rfl⟩ | ⟨b, off, cap', e, hc, hm, hp, hi⟩ | ⟨a', cap', e, rfl⟩
  · simp at hj; subst hj; exact .inl ⟨by simpa using e, rfl⟩
  · simp only [Value.slice.injEq] at e
    obtain ⟨rfl, -, rfl⟩ := e
    by_cases h0 : j = 0
    · subst h0
      exact .inr (.inr ⟨_, cap, rfl, rfl⟩)
    · refine .inr (.inl ⟨b, off, cap, rfl, by omega, hm, by omega, fun i hil => ?_⟩)
      rw [hl] at hil
      rw [hi i (by omega)]
      simp [List.getD, List.getElem?_take, hil]
  · simp at hj; subst hj; exact .inr (.inr ⟨a', cap', by simpa using e, rfl⟩)
def wk3L : List BQ := [⟨1, 0, 3⟩, ⟨1, 0, 1⟩, ⟨0, 0, 0⟩]
theorem wk_choose (S : Spots) (h : lvZ S 3 = livZ wk3L 3) : chooseZ (poolK wk3L 3 3) S 3 [] = (1, true) := by
  have e : chooseK (poolK wk3L 3 3) S 3 [] = 1 := by
    unfold chooseK
    rw [aheadC_eq, h]
    decide +kernel
  unfold chooseZ
  rw [e]
  rfl
theorem wk_count : cntK (poolK wk3L 3 3) 1 (poolK wk3L 3 3).length = 1 := by decide +kernel
theorem wk_len : (poolK wk3L 3 3).length = 3 := by decide +kernel
set_option maxRecDepth 100000 in
set_option maxHeartbeats 1000000 in
theorem wakes_any (w : World) : Calls Try.prog 7 #[] w fun e w' => e = .returned (.bool true) ∧ Below w.heap.size w w' := by
  have HL := hide (fun (a : Option Addr) W hin => laid_any a wk3L 3 3 3 (by decide) (by decide) (by decide) (by decide) (by intro x hx; simp [wk3L] at hx; rcases hx with rfl | rfl | rfl <;> (unfold BqOk; decide)) W hin)
  rw [show wk3L.length = 3 from rfl] at HL
  have HC := hide (fun p q m q' o l S W h1 h2 => choose_any p q m q' o l (poolK wk3L 3 3) 8 3 S (.slice none 0 0) [] (by decide) W h1 h2 (.inl ⟨rfl, rfl⟩))
  have HCZ := hide wk_choose
  have HSH := hide (fun p q n W h => short_any p q (poolK wk3L 3 3) (by rw [wk_len]; decide) n W h)
  rw [wk_count] at HSH
  generalize livV wk3L 3 3 = lvs at *
  generalize poolK wk3L 3 3 = PL at *
  have HIN := hide (fun (W : World) (b : Nat) (hb : W.heap[b]? = some (.cells #[.int .i64 1, .int .i64 0, .int .i64 3, .int .i64 1, .int .i64 0, .int .i64 1, .int .i64 0, .int .i64 0, .int .i64 0] 53 (0, 0))) => show BqIn W (some ⟨b, 0, none⟩) wk3L from fun i hi => by
    have h3 : i = 0 ∨ i = 1 ∨ i = 2 := by have : i < 3 := hi; omega
    refine ⟨b, 0, rfl, heap_lt hb, ?_⟩
    rcases h3 with rfl | rfl | rfl <;> exact ⟨cell_of_block hb _, cell_of_block hb _, cell_of_block hb _⟩)
  go_enter Try.func7, Try.ntmps7
  go_wp2_with fail
  have hal := (Below.refl w.heap.size w).alloc (Nat.le_refl _) (.cells #[.int .i64 1, .int .i64 0, .int .i64 3, .int .i64 1, .int .i64 0, .int .i64 1, .int .i64 0, .int .i64 0, .int .i64 0] 53)
  have hnew := heap_new w (.cells #[.int .i64 1, .int .i64 0, .int .i64 3, .int .i64 1, .int .i64 0, .int .i64 1, .int .i64 0, .int .i64 0, .int .i64 0] 53)
  have BI := hide (HIN.out _ _ hnew)
  have B1 := hide hal
  clear hal hnew HIN
  generalize w.alloc (.cells #[.int .i64 1, .int .i64 0, .int .i64 3, .int .i64 1, .int .i64 0, .int .i64 1, .int .i64 0, .int .i64 0, .int .i64 0] 53) = w1 at *
  refine (HL.out _ w1 BI.out).mono ?_
  rintro e w2 ⟨a1, a2, a3, p, q, m, q', o, l, r, s, t, S, rfl, hl, hv, hb⟩
  have LL := hide hl
  have HCS := hide (HCZ.out S hv)
  have B2 := hide (B1.out.trans (hb.mono B1.out.size))
  clear hl hv hb HL B1 BI
  go_wp2_with fail
  have hch := HC.out p q m q' o l S w2 LL.out.pool LL.out.map
  rw [HCS.out] at hch
  dsimp only at hch
  refine hch.mono ?_
  rintro e w3 ⟨rfl, hb⟩
  have LL3 := hide (LL.out.below hb)
  have B3 := hide (B2.out.trans (hb.mono B2.out.size))
  clear hb hch LL B2 HC
  go_wp2_with fail
  refine (HSH.out p q 2 w3 LL3.out.pool).mono ?_
  rintro e w4 ⟨rfl, hb⟩
  have LL4 := hide (LL3.out.below hb)
  have B4 := hide (B3.out.trans (hb.mono B3.out.size))
  clear hb LL3 B3
  go_wp2_with fail
  refine (HSH.out p q 1 w4 LL4.out.pool).mono ?_
  rintro e w5 ⟨rfl, hb⟩
  have B5 := hide (B4.out.trans (hb.mono B4.out.size))
  clear hb LL4 B4
  go_wp2_with fail
  go_ret
  exact ⟨rfl, B5.out⟩
end Go.Proofs.Ytpgogdnjddeagaa
