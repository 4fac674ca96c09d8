import Derived.Test.YtbnbfnlfgmlcgaaSale6
import Derived.Test.YtbnbfnlfgmlcgaaKitE
import Derived.Test.YtbnbfnlfgmlcgaaKitY
/-
  Layer 25: wakes.
-/
--import Derived.Test.Zdbg
namespace Go.Proofs.Ytbnbfnlfgmlcgaa
set_option linter.unusedSimpArgs false
set_option linter.unusedVariables false
open Go.RowKit Go.WideShapes Go.ChangeShapes Go.ChangeAt Go.Deep

theorem add_says {B p : Nat} {keep next er n nx : Int} {T : List TxA} {M : List TxM} {t : TxM} {w w' : World} {e : Ending} (h : AddIs B p keep next T t w e w') (hE : addE (T.map (·.t)) next t = er) (hM : addM (T.map (·.t)) keep next t = M) (hn : (if er = 0 then next else 0) = n) (hx : (if er = 0 then next + 1 else next) = nx) :
    ∃ v' T', e = .returned (.tuple #[.int .i64 n, .int .i64 er]) ∧ RegAt w' B p keep nx v' T' ∧ T'.map (·.t) = M ∧ Below B w w' ∧ KeepsT SaleTs w w' := by
  obtain ⟨v', T', h1, h2, h3, h4, h5⟩ := h
  unfold addN at h2
  rw [hE] at h1 h2
  rw [hn] at h1
  rw [hx] at h2
  exact ⟨v', T', h1, h2, h3.trans hM, h4, h5⟩
def wk1 : TxM := ⟨0, 1, 1, 0, 500, 0, false, []⟩
def wk2 : TxM := ⟨0, 3, 1, 1, 200, 0, false, []⟩
def wk3 : TxM := ⟨0, 2, 1, 1, 500, 0, false, []⟩
theorem wk_ok {n k s r a l : Int} {v : Bool} (h1 : inR n) (h2 : 0 ≤ k ∧ k ≤ 255) (h3 : inR s) (h4 : inR r) (h5 : inR a) (h6 : inR l) : TxOk ⟨n, k, s, r, a, l, v, []⟩ := ⟨h1, h2, h3, h4, h5, h6, by simp, fun x hx => by cases hx⟩
def wkM : List TxM := [⟨1, 1, 1, 0, 500, 300, false, []⟩, ⟨2, 3, 1, 1, 200, 0, false, []⟩]
set_option maxRecDepth 100000 in
set_option maxHeartbeats 1000000 in
theorem wakes25 (w : World) : Calls Try.prog 19 #[] w fun e w' => e = .returned (.bool true) ∧ Below w.heap.size w w' := by
  have O1 := hide (show TxOk wk1 from wk_ok (by decide) (by decide) (by decide) (by decide) (by decide) (by decide))
  have O2 := hide (show TxOk wk2 from wk_ok (by decide) (by decide) (by decide) (by decide) (by decide) (by decide))
  have O3 := hide (show TxOk wk3 from wk_ok (by decide) (by decide) (by decide) (by decide) (by decide) (by decide))
  go_enter Try.func19, Try.ntmps19
  go_wp2_with fail
  refine (slnew_ok 3 (by decide) (by decide) w).mono ?_
  rintro e w1 ⟨p, rfl, h, hb⟩
  obtain ⟨q, hq⟩ : ∃ q, w.heap.size = q := ⟨_, rfl⟩
  rw [hq] at h hb
  have HQ := hide hq
  clear hq
  have R1 := hide h
  have B1 := hide hb
  clear h hb
  go_wp2_with fail
  refine (sladd_any q p 3 1 _ [] ⟨wk1, none, 0⟩ O1.out w1 (LnT.nil _ _) R1.out).mono ?_
  intro e w2 ha
  obtain ⟨v2, T2, rfl, hr, hm, hb, -⟩ := add_says (er := 0) (n := 1) (nx := 2) (M := [⟨1, 1, 1, 0, 500, 500, false, []⟩]) ha (by decide) (by decide) rfl rfl
  have R2 := hide hr
  have M2 := hide hm
  have B2 := hide (B1.out.trans hb)
  clear ha hr hm hb B1 R1
  go_wp2_with fail
  refine (sladd_any q p 3 2 _ T2 ⟨wk2, none, 0⟩ O2.out w2 (LnT.nil _ _) R2.out).mono ?_
  intro e w3 ha
  obtain ⟨v3, T3, rfl, hr, hm, hb, -⟩ := add_says (er := 0) (n := 2) (nx := 3) (M := wkM) ha (by rw [M2.out]; decide) (by rw [M2.out]; decide) rfl rfl
  have R3 := hide hr
  have M3 := hide hm
  have B3 := hide (B2.out.trans hb)
  clear ha hr hm hb B2 R2 M2
  go_wp2_with fail
  refine (sladd_any q p 3 3 _ T3 ⟨wk3, none, 0⟩ O3.out w3 (LnT.nil _ _) R3.out).mono ?_
  intro e w4 ha
  obtain ⟨v4, T4, rfl, hr, hm, hb, -⟩ := add_says (er := 22) (n := 0) (nx := 3) (M := wkM) ha (by rw [M3.out]; decide) (by rw [M3.out]; decide) rfl rfl
  have R4 := hide hr
  have M4 := hide hm
  have B4 := hide (B3.out.trans hb)
  have HL := hide (show T4.length = 2 by have := congrArg List.length hm; simpa [wkM] using this)
  have HG := hide (show (T4.getD 0 ta0).t.left = 300 by
    have := congrArg (fun l : List TxM => (l.getD 0 tx0).left) hm
    have hl : T4.length = 2 := by have := congrArg List.length hm; simpa [wkM] using this
    simp only [List.getD, List.getElem?_map, wkM] at this ⊢
    rw [List.getElem?_eq_getElem (show 0 < T4.length by omega)] at this ⊢
    exact this)
  clear ha hr hm hb B3 R3 M3
  go_wp2_with fail
  refine (slget_any q p 3 3 _ T4 1 (by decide) w4 R4.out).mono ?_
  intro e w5 hg
  rcases hg with ⟨hn, -, -⟩ | ⟨i, a, c, hf, hi, rfl, -, hb⟩
  · rw [HL.out] at hn; exact absurd hn (by decide)
  obtain rfl : i = 0 := by
    rw [HL.out] at hf
    exact (Option.some.inj ((show some 0 = findT 2 3 1 by decide).trans hf)).symm
  have HB0 : q ≤ w4.heap.size := by have := heap_lt R4.out.head; have := R4.out.low; omega
  have R5 := hide (R4.out.below hb)
  have B5 := hide (B4.out.trans (hb.mono HB0))
  clear hf hi hb R4 B4 HB0
  generalize (T4.getD 0 ta0).t = t0 at *
  obtain ⟨z0, z1, z2, z3, z4, z5, z6, z7⟩ := t0
  obtain rfl : z5 = 300 := HG.out
  unfold txV txC
  go_wp2_with fail
  have al := (Below.refl w5.heap.size w5).alloc (Nat.le_refl _) (.cells #[.int .i64 z0, .int .u8 z1, .int .i64 z2, .int .i64 z3, .int .i64 z4, .int .i64 300, .bool z6, .slice a z7.length c] 35)
  have B6 := hide (B5.out.trans (al.mono (by have := heap_lt R5.out.head; have := R5.out.low; omega)))
  refine (slnext_any q p 3 3 _ T4 _ (R5.out.below al)).mono ?_
  rintro e w6 ⟨rfl, rfl⟩
  clear al
  go_wp2_with fail
  go_ret
  exact ⟨rfl, by rw [HQ.out]; exact B6.out⟩
end Go.Proofs.Ytbnbfnlfgmlcgaa

/-
  Layer 25: acts that come in; what an act is added as.
-/
--import Derived.Test.Zdbg
namespace Go.Proofs.Ytbnbfnlfgmlcgaa
set_option linter.unusedSimpArgs false
set_option linter.unusedVariables false
open Go.RowKit Go.WideShapes Go.ChangeShapes Go.ChangeAt Go.Deep

structure ActT where
  k : Int
  s : Int
  r : Int
  a : Int
  c : Int
def actT0 : ActT := ⟨0, 0, 0, 0, 0⟩
def actTC (x : ActT) : List Value := [.int .u8 x.k, .int .i64 x.s, .int .i64 x.r, .int .i64 x.a, .int .i64 x.c]
def ActTOk (x : ActT) : Prop := (0 ≤ x.k ∧ x.k ≤ 255) ∧ inR x.s ∧ inR x.r ∧ inR x.a ∧ inR x.c
/-- a slice of acts that comes in -/
def ActTs (w : World) (a : Option Addr) (L : List ActT) : Prop := ∀ i, i < L.length → ∃ b off, a = some ⟨b, off, none⟩ ∧ b < w.heap.size ∧ w.cell? ⟨b, off + i * 5, none⟩ = some (.int .u8 (L.getD i actT0).k) ∧ w.cell? ⟨b, off + i * 5 + 1, none⟩ = some (.int .i64 (L.getD i actT0).s) ∧ w.cell? ⟨b, off + i * 5 + 2, none⟩ = some (.int .i64 (L.getD i actT0).r) ∧ w.cell? ⟨b, off + i * 5 + 3, none⟩ = some (.int .i64 (L.getD i actT0).a) ∧ w.cell? ⟨b, off + i * 5 + 4, none⟩ = some (.int .i64 (L.getD i actT0).c)
theorem ActTs.below {w w' : World} {a : Option Addr} {L : List ActT} (h : ActTs w a L) (hb : Below w.heap.size w w') : ActTs w' a L := fun i hi => by
  obtain ⟨b, off, h1, h2, h3, h4, h5, h6, h7⟩ := h i hi
  exact ⟨b, off, h1, Nat.lt_of_lt_of_le h2 hb.size, cell_keep h3 h2 hb, cell_keep h4 h2 hb, cell_keep h5 h2 hb, cell_keep h6 h2 hb, cell_keep h7 h2 hb⟩
def ActsT (w : World) (v : Value) : Prop := ∃ (a : Option Addr) (L : List ActT) (cap : Nat), v = .slice a L.length cap ∧ L.length ≤ cap ∧ L.length ≤ 9223372036854775807 ∧ ActTs w a L ∧ ∀ x ∈ L, ActTOk x
set_option maxRecDepth 100000 in
theorem open_actTs {H : Type} {enc : TypeId × Value → H} {w : World} {base : Nat} {sp : Nat → Bool} {held : Bool} {r : Reach} {b0 : Nat} {v : Value} {d : DataW H} {ps : List MemPlace}
    (hv : Value.okWide Try.prog w r b0 22 v) (h : DataW.Trod enc Try.prog w base sp held 22 v d ps) : ActsT w v := by
  obtain ⟨L, ⟨a, cap, rfl, hm, hc, _, hat⟩, hty⟩ := open_rows [.int .u8, .int .i64, .int .i64, .int .i64, .int .i64] Try.underlying22 Try.underlying29 (by kernel_rfl) (by kernel_rfl) (by decide) rfl (fun j hj => by
    have : j = 0 ∨ j = 1 ∨ j = 2 ∨ j = 3 ∨ j = 4 := by simp at hj; omega
    rcases this with rfl | rfl | rfl | rfl | rfl <;> rfl) hv h
  obtain ⟨M, rfl, hM⟩ := rows_typed actTC ActTOk L (fun x hx => by
    obtain ⟨hl, hcell⟩ := hty x hx
    match x, (show x.length = 5 from hl), hcell with
    | [x0, x1, x2, x3, x4], _, hcell =>
      obtain ⟨k, rfl, hk⟩ := hcell 0 _ _ rfl rfl
      obtain ⟨s, rfl, hs⟩ := hcell 1 _ _ rfl rfl
      obtain ⟨n, rfl, hn⟩ := hcell 2 _ _ rfl rfl
      obtain ⟨m, rfl, hm⟩ := hcell 3 _ _ rfl rfl
      obtain ⟨c, rfl, hc⟩ := hcell 4 _ _ rfl rfl
      exact ⟨⟨k, s, n, m, c⟩, rfl, wf_u8 hk, wf_i64 hs, wf_i64 hn, wf_i64 hm, wf_i64 hc⟩)
  refine ⟨a, M, cap, by rw [List.length_map], by simpa using hc, by unfold maxLen at hm; simpa using hm, fun i hi => ?_, hM⟩
  obtain ⟨b, off, ha, hb, hcs⟩ := hat i (by simpa using hi)
  have e := getD_map actTC M actT0 i hi
  rw [e] at hcs
  refine ⟨b, off, ha, hb, ?_, ?_, ?_, ?_, ?_⟩
  · have := hcs 0 (show 0 < 5 by decide)
    rw [Nat.add_zero] at this
    exact this
  · have := hcs 1 (show 1 < 5 by decide)
    rw [← Nat.add_assoc] at this
    exact this
  · have := hcs 2 (show 2 < 5 by decide)
    rw [← Nat.add_assoc] at this
    exact this
  · have := hcs 3 (show 3 < 5 by decide)
    rw [← Nat.add_assoc] at this
    exact this
  · have := hcs 4 (show 4 < 5 by decide)
    rw [← Nat.add_assoc] at this
    exact this
end Go.Proofs.Ytbnbfnlfgmlcgaa
