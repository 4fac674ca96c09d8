/-
  Layer 26: shifts in memory by their value; New, Open, Start, Add by contract.
-/
import Derived.Test.YtnnggchkdffpnaaDoorMSh
import Derived.Test.YtnnggchkdffpnaaDoorShift3
import Derived.Test.YtnnggchkdffpnaaDoorShDel
--import Derived.Test.Zdbg
namespace Go.Proofs.YtnnggchkdffpnaaDoor
set_option linter.unusedSimpArgs false
set_option linter.unusedVariables false
open Go.RowKit Go.WideShapes Go.ChangeShapes Go.ChangeAt Go.Deep
def ShTs : List TypeId := [56, 34]
/-- what turned: these blocks alone, and of these types alone -/
structure SKO (qs : List Nat) (w w' : World) : Prop where
  kt : KeepsT ShTs w w'
  ol : OnlyL qs w w'
theorem SKO.refl (qs : List Nat) (w : World) : SKO qs w w := ⟨KeepsT.refl _ _, OnlyL.refl _ _⟩
theorem SKO.of_below {qs : List Nat} {w w' : World} (h : Below w.heap.size w w') : SKO qs w w' := ⟨KeepsT.of_below h, OnlyL.of_below h⟩
theorem SKO.below {qs : List Nat} {a b c : World} (h : SKO qs a b) (k : Below b.heap.size b c) : SKO qs a c := ⟨h.kt.trans (KeepsT.of_below k), h.ol.trans (OnlyL.of_below k)⟩
theorem SKO.drew {qs : List Nat} {a b : World} (h : SKO qs a b) : SKO qs a b.drew := ⟨fun k o hk hn => h.kt k o hk hn, h.ol.drew⟩
theorem SKO.set {qs : List Nat} {a w : World} {p : Nat} {c : Array Value} {fz : Nat × Nat} (h : SKO qs a w) (hp : w.heap[p]? = some (.cells c 56 fz)) (hq : p ∈ qs) (j : Nat) (v : Value) : SKO qs a (w.setCell ⟨p, j, none⟩ v) := ⟨h.kt.trans (KeepsT.setCell hp (by decide) j v), h.ol.trans (OnlyL.setCell hq j v)⟩
theorem SKO.base {qs : List Nat} {B : Nat} {a b c : World} (h : SKO qs b c) (k : Below B a b) (hB : ∀ q ∈ qs, B ≤ q) (hs : B ≤ b.heap.size) : Below B a c := h.ol.below k hB hs
theorem SKO.mono {qs rs : List Nat} {a b : World} (h : SKO qs a b) (hs : ∀ q ∈ qs, q ∈ rs) : SKO rs a b := ⟨h.kt, h.ol.mono hs⟩
theorem owns_lonely {w w' : World} {B e m n : Nat} {v : Value} {xs : List Value} {qs : List Nat} (h : w.ownsRow B e m v n xs) (ho : OnlyL qs w w') (hq : ∀ g, v.ownBlock = some g → g ∉ qs) : w'.ownsRow B e m v n xs := by
  refine ⟨h.1, ?_⟩
  rcases h.2 with h3 | ⟨g, cap', cur, rfl, hg, hh, h4⟩
  · exact .inl h3
  · exact .inr ⟨g, cap', cur, rfl, hg, (ho.block g (heap_lt hh) (hq g rfl)).trans hh, h4⟩
/-- shifts lie at block p -/
structure ShIs (w : World) (B p : Nat) (M : ShM) (v : Value) : Prop where
  head : w.heap[p]? = some (.cells #[.int .i64 M.keep, .int .i64 M.next, .bool M.op, .int .i64 M.now.c, .int .i64 M.now.s, .int .i64 M.now.v, .int .i64 M.now.r, .int .i64 M.now.i, .int .i64 M.now.o, v] 56 (0, 0))
  row : w.ownsRow B 34 6 v M.L.length (M.L.flatMap totC)
  low : B ≤ p
  ok : ShOk M
theorem ShIs.below {w w' : World} {B p : Nat} {M : ShM} {v : Value} (h : ShIs w B p M v) (hb : Below w.heap.size w w') : ShIs w' B p M v := ⟨(hb.block _ (heap_lt h.head)).trans h.head, owns_below h.row hb, h.low, h.ok⟩
theorem ShIs.drew {w : World} {B p : Nat} {M : ShM} {v : Value} (h : ShIs w B p M v) : ShIs w.drew B p M v := ⟨h.head, h.row, h.low, h.ok⟩
theorem ShIs.drewN {w : World} {B p : Nat} {M : ShM} {v : Value} (h : ShIs w B p M v) (n : Nat) : ShIs (w.drewN n) B p M v := ⟨h.head, h.row, h.low, h.ok⟩
theorem ShIs.lt {w : World} {B p : Nat} {M : ShM} {v : Value} (h : ShIs w B p M v) : p < w.heap.size := heap_lt h.head
theorem ShIs.ne {w : World} {B p : Nat} {M : ShM} {v : Value} (h : ShIs w B p M v) : ∀ g, v.ownBlock = some g → g ∉ [p] := fun g hg hm => by
  rw [List.mem_singleton.1 hm] at hg
  obtain ⟨c, fz, hc⟩ := Go.Lib.ownsRow_kind h.row p hg
  rw [h.head] at hc
  simp only [Option.some.injEq, Obj.cells.injEq] at hc
  exact absurd hc.2.1 (by decide)
/-- shifts stay where other blocks turn -/
theorem ShIs.apart {w w' : World} {B p : Nat} {M : ShM} {v : Value} {qs : List Nat} (h : ShIs w B p M v) (ho : OnlyL qs w w') (hp : p ∉ qs) (hq : ∀ g, v.ownBlock = some g → g ∉ qs) : ShIs w' B p M v := ⟨(ho.block p h.lt hp).trans h.head, owns_lonely h.row ho hq, h.low, h.ok⟩
set_option maxRecDepth 100000 in
theorem shnew_ok (k : Int) (h0 : 1 ≤ k) (h1 : k ≤ 64) (w : World) :
    Calls Tryd.prog 4 #[.int .i64 k] w fun e w' => e = .returned (.tuple #[.pointer (some ⟨w.heap.size, 0, none⟩), .int .i64 0]) ∧ ShIs w' w.heap.size w.heap.size ⟨k, 1, false, tot0, []⟩ (.slice none 0 0) ∧ Below w.heap.size w w' :=
  (snew_ok k h0 h1 w).mono fun e w' ⟨he, hs, hb⟩ => ⟨he, ⟨hs, World.ownsRow_nil _ _ _ _, Nat.le_refl _, ⟨⟨h0, h1⟩, by dsimp only; omega, by dsimp only [List.length_nil]; omega, by dsimp only [List.length_nil]; rw [if_neg (by decide)]; omega, tot0_ok, fun t ht => by cases ht⟩⟩, hb⟩
set_option maxRecDepth 100000 in
theorem shnew_no (k : Int) (h : ¬ (1 ≤ k ∧ k ≤ 64)) (w : World) :
    Calls Tryd.prog 4 #[.int .i64 k] w fun e w' => e = .returned (.tuple #[.pointer none, .int .i64 2]) ∧ w = w' := by
  go_enter Tryd.func4, Tryd.ntmps4
  by_cases h1 : k < 1
  · go_wp2_with fail
    go_ret2
    exact ⟨rfl, rfl⟩
  · have h2 : 64 < k := by omega
    clear h
    go_wp2_with fail
    go_ret2
    exact ⟨rfl, rfl⟩
theorem shopen_any (B p : Nat) (M : ShM) (v : Value) (w : World) (h : ShIs w B p M v) :
    Calls Tryd.prog 9 #[.pointer (some ⟨p, 0, none⟩)] w fun e w' => e = .returned (.int .i64 (shOpen M)) ∧ w = w' :=
  open_any' p M.keep M.next h.ok.nx.1 h.ok.nx.2 M.op M.now.c M.now.s M.now.v M.now.r M.now.i M.now.o v w h.head
def SStartIs (B p : Nat) (M : ShM) (v : Value) (w : World) (e : Ending) (w' : World) : Prop := e = .returned (.tuple #[.int .i64 (shStartN M), .int .i64 (shStartE M)]) ∧ ShIs w' B p (shStartM M) v ∧ SKO [p] w w'
theorem shstart_no {B p : Nat} {M : ShM} {v : Value} {w w' : World} {er : Int} (h : ShIs w' B p M v) (hE : shStartE M = er) (h0 : er ≠ 0) (hk : SKO [p] w w') : SStartIs B p M v w (.returned (.tuple #[.int .i64 0, .int .i64 er])) w' := by
  have hm : shStartM M = M := by unfold shStartM; rw [hE, if_neg h0]
  refine ⟨?_, hm.symm ▸ h, hk⟩
  unfold shStartN
  rw [hE, if_neg h0]
set_option maxRecDepth 100000 in
set_option maxHeartbeats 1000000 in
theorem shstart_any (B p : Nat) (M : ShM) (v : Value) (w : World) (h : ShIs w B p M v) :
    Calls Tryd.prog 6 #[.pointer (some ⟨p, 0, none⟩)] w (SStartIs B p M v w) := by
  obtain ⟨keep, next, op, ⟨xc, xs, xv, xr, xi, xo⟩, L⟩ := M
  have HH := hide h
  have HD := hide (show w.heap[p]? = some (.cells #[.int .i64 keep, .int .i64 next, .bool op, .int .i64 xc, .int .i64 xs, .int .i64 xv, .int .i64 xr, .int .i64 xi, .int .i64 xo, v] 56 (0, 0)) from h.head)
  have hnx : 1 ≤ next ∧ next ≤ 4294967296 := h.ok.nx
  clear h
  obtain ⟨⟨c0, c1, c2, c3, c4, c5, c6, c7, c8, c9⟩, ⟨f0, f1, f2, f3, f4, f5, f6, f7, f8, f9⟩⟩ := sh_facts HD.out
  go_enter Tryd.func6, Tryd.ntmps6
  cases op with
  | true =>
    go_wp2_with fail
    go_ret2
    exact shstart_no HH.out rfl (by decide) (SKO.refl _ _)
  | false =>
    by_cases hn : 4294967295 < next
    · have HE := hide (show shStartE ⟨keep, next, false, ⟨xc, xs, xv, xr, xi, xo⟩, L⟩ = 7 from by unfold shStartE; dsimp only; rw [if_neg (by decide), if_pos hn])
      go_wp2_with fail
      go_ret2
      exact shstart_no HH.out HE.out (by decide) (SKO.refl _ _)
    · have HE := hide (show shStartE ⟨keep, next, false, ⟨xc, xs, xv, xr, xi, xo⟩, L⟩ = 0 from by unfold shStartE; dsimp only; rw [if_neg (by decide), if_neg hn])
      have hw : IntKind.i64.wrap (next + 1) = next + 1 := by rw [IntKind.wrap_i64]; omega
      have K0 := hide (SKO.refl [p] w)
      have HO := hide (shStart_ok HH.out.ok)
      have HM := hide (show shStartM ⟨keep, next, false, ⟨xc, xs, xv, xr, xi, xo⟩, L⟩ = ⟨keep, next + 1, true, tot0, L⟩ from by unfold shStartM; rw [HE.out, if_pos rfl])
      rw [HM.out] at HO
      go_wp2_with fail
      clear c0 c1 c2 c3 c4 c5 c6 c7 c8 c9 f0 f1 f2 f3 f4 f5 f6 f7 f8 f9
      have Nt0 := hide (show (w.setCell ⟨p, 2, none⟩ (.bool true)).heap[p]? = some (.cells #[.int .i64 keep, .int .i64 next, .bool true, .int .i64 xc, .int .i64 xs, .int .i64 xv, .int .i64 xr, .int .i64 xi, .int .i64 xo, v] 56 (0, 0)) from block_setCell HD.out 2 (.bool true))
      have Kt0 := hide (K0.out.set HD.out (List.mem_singleton.2 rfl) 2 (.bool true))
      generalize w.setCell ⟨p, 2, none⟩ (.bool true) = wt0 at *
      have Nt1 := hide (show (wt0.setCell ⟨p, 3, none⟩ (.int .i64 0)).heap[p]? = some (.cells #[.int .i64 keep, .int .i64 next, .bool true, .int .i64 0, .int .i64 xs, .int .i64 xv, .int .i64 xr, .int .i64 xi, .int .i64 xo, v] 56 (0, 0)) from block_setCell Nt0.out 3 (.int .i64 0))
      have Kt1 := hide (Kt0.out.set Nt0.out (List.mem_singleton.2 rfl) 3 (.int .i64 0))
      generalize wt0.setCell ⟨p, 3, none⟩ (.int .i64 0) = wt1 at *
      have Nt2 := hide (show (wt1.setCell ⟨p, 4, none⟩ (.int .i64 0)).heap[p]? = some (.cells #[.int .i64 keep, .int .i64 next, .bool true, .int .i64 0, .int .i64 0, .int .i64 xv, .int .i64 xr, .int .i64 xi, .int .i64 xo, v] 56 (0, 0)) from block_setCell Nt1.out 4 (.int .i64 0))
      have Kt2 := hide (Kt1.out.set Nt1.out (List.mem_singleton.2 rfl) 4 (.int .i64 0))
      generalize wt1.setCell ⟨p, 4, none⟩ (.int .i64 0) = wt2 at *
      have Nt3 := hide (show (wt2.setCell ⟨p, 5, none⟩ (.int .i64 0)).heap[p]? = some (.cells #[.int .i64 keep, .int .i64 next, .bool true, .int .i64 0, .int .i64 0, .int .i64 0, .int .i64 xr, .int .i64 xi, .int .i64 xo, v] 56 (0, 0)) from block_setCell Nt2.out 5 (.int .i64 0))
      have Kt3 := hide (Kt2.out.set Nt2.out (List.mem_singleton.2 rfl) 5 (.int .i64 0))
      generalize wt2.setCell ⟨p, 5, none⟩ (.int .i64 0) = wt3 at *
      have Nt4 := hide (show (wt3.setCell ⟨p, 6, none⟩ (.int .i64 0)).heap[p]? = some (.cells #[.int .i64 keep, .int .i64 next, .bool true, .int .i64 0, .int .i64 0, .int .i64 0, .int .i64 0, .int .i64 xi, .int .i64 xo, v] 56 (0, 0)) from block_setCell Nt3.out 6 (.int .i64 0))
      have Kt4 := hide (Kt3.out.set Nt3.out (List.mem_singleton.2 rfl) 6 (.int .i64 0))
      generalize wt3.setCell ⟨p, 6, none⟩ (.int .i64 0) = wt4 at *
      have Nt5 := hide (show (wt4.setCell ⟨p, 7, none⟩ (.int .i64 0)).heap[p]? = some (.cells #[.int .i64 keep, .int .i64 next, .bool true, .int .i64 0, .int .i64 0, .int .i64 0, .int .i64 0, .int .i64 0, .int .i64 xo, v] 56 (0, 0)) from block_setCell Nt4.out 7 (.int .i64 0))
      have Kt5 := hide (Kt4.out.set Nt4.out (List.mem_singleton.2 rfl) 7 (.int .i64 0))
      generalize wt4.setCell ⟨p, 7, none⟩ (.int .i64 0) = wt5 at *
      have Nt6 := hide (show (wt5.setCell ⟨p, 8, none⟩ (.int .i64 0)).heap[p]? = some (.cells #[.int .i64 keep, .int .i64 next, .bool true, .int .i64 0, .int .i64 0, .int .i64 0, .int .i64 0, .int .i64 0, .int .i64 0, v] 56 (0, 0)) from block_setCell Nt5.out 8 (.int .i64 0))
      have Kt6 := hide (Kt5.out.set Nt5.out (List.mem_singleton.2 rfl) 8 (.int .i64 0))
      generalize wt5.setCell ⟨p, 8, none⟩ (.int .i64 0) = wt6 at *
      have Nt7 := hide (show (wt6.setCell ⟨p, 1, none⟩ (.int .i64 (next + 1))).heap[p]? = some (.cells #[.int .i64 keep, .int .i64 (next + 1), .bool true, .int .i64 0, .int .i64 0, .int .i64 0, .int .i64 0, .int .i64 0, .int .i64 0, v] 56 (0, 0)) from block_setCell Nt6.out 1 (.int .i64 (next + 1)))
      have Kt7 := hide (Kt6.out.set Nt6.out (List.mem_singleton.2 rfl) 1 (.int .i64 (next + 1)))
      generalize wt6.setCell ⟨p, 1, none⟩ (.int .i64 (next + 1)) = wt7 at *
      have HS := hide (show ShIs wt7 B p ⟨keep, next + 1, true, tot0, L⟩ v from ⟨Nt7.out, owns_lonely HH.out.row Kt7.out.ol HH.out.ne, HH.out.low, HO.out⟩)
      refine (shopen_any B p _ v _ HS.out).mono ?_
      rintro e w9 ⟨rfl, rfl⟩
      have hw2 : shOpen ⟨keep, next + 1, true, tot0, L⟩ = next := by unfold shOpen; rw [if_pos rfl]; dsimp only; omega
      go_wp2_with fail
      go_ret2
      refine ⟨?_, ?_, Kt7.out⟩
      · unfold shStartN
        rw [HE.out, if_pos rfl]
        rfl
      · rw [HM.out]; exact HS.out
def SAddIs (B p : Nat) (M : ShM) (k am : Int) (v : Value) (w : World) (e : Ending) (w' : World) : Prop := e = .returned (.int .i64 (shAddE M k am)) ∧ ShIs w' B p (shAddM M k am) v ∧ SKO [p] w w'
theorem shadd_no {B p : Nat} {M : ShM} {k am : Int} {v : Value} {w w' : World} {er : Int} (h : ShIs w' B p M v) (hE : shAddE M k am = er) (h0 : er ≠ 0) (hk : SKO [p] w w') : SAddIs B p M k am v w (.returned (.int .i64 er)) w' := by
  have hm : shAddM M k am = M := by unfold shAddM; rw [hE, if_neg h0]
  exact ⟨by rw [hE], hm.symm ▸ h, hk⟩
theorem shadd_fin {B p : Nat} {M : ShM} {k am : Int} {v : Value} {w w' : World} (h : ShIs w B p M v) (hE : shAddE M k am = 0)
    (hh : w'.heap[p]? = some (.cells #[.int .i64 M.keep, .int .i64 M.next, .bool M.op, .int .i64 (shAddT M.now k am).c, .int .i64 (shAddT M.now k am).s, .int .i64 (shAddT M.now k am).v, .int .i64 (shAddT M.now k am).r, .int .i64 (shAddT M.now k am).i, .int .i64 (shAddT M.now k am).o, v] 56 (0, 0))) (hk : SKO [p] w w') : SAddIs B p M k am v w (.returned (.int .i64 0)) w' := by
  have hm : shAddM M k am = { M with now := shAddT M.now k am } := by unfold shAddM; rw [hE, if_pos rfl]
  have ho := shAdd_ok (k := k) (am := am) h.ok
  rw [hm] at ho
  exact ⟨by rw [hE], hm.symm ▸ ⟨hh, owns_lonely h.row hk.ol h.ne, h.low, ho⟩, hk⟩
theorem okR {x : Int} (h : sumOk x) : inR x := by unfold sumOk at h; unfold inR; omega
set_option maxRecDepth 100000 in
set_option maxHeartbeats 1000000 in
theorem shadd_1 (p : Nat) (keep next xc xs xv xr xi xo : Int) (v : Value) (am : Int) (h0 : 0 ≤ am) (hc : 0 ≤ xc ∧ xc < 4294967295) (x : Int) (hs : inR xs) (ham : inR am) (hx : inR (xs + am)) (hxe : xs + am = x) (w : World) (h : w.heap[p]? = some (.cells #[.int .i64 keep, .int .i64 next, .bool true, .int .i64 xc, .int .i64 xs, .int .i64 xv, .int .i64 xr, .int .i64 xi, .int .i64 xo, v] 56 (0, 0))) :
    Calls Tryd.prog 8 #[.pointer (some ⟨p, 0, none⟩), .int .u8 1, .int .i64 am] w fun e w' => e = .returned (.int .i64 0) ∧ w'.heap[p]? = some (.cells #[.int .i64 keep, .int .i64 next, .bool true, .int .i64 (xc + 1), .int .i64 x, .int .i64 xv, .int .i64 xr, .int .i64 xi, .int .i64 xo, v] 56 (0, 0)) ∧ SKO [p] w w' := by
  have HSU := hide (fun W => sums_any xc xs xv xr xi xo W)
  have HTO := hide (fun W => totals_any (xc + 1) x xv xr xi xo W)
  have HAD := hide (fun W => cadd_any xs am hs ham W)
  rw [(sum_in hx).1, (sum_in hx).2, hxe] at HAD
  clear hx hxe hs ham
  have hwc : IntKind.i64.wrap (xc + 1) = xc + 1 := by rw [IntKind.wrap_i64]; omega
  have hc2 : ¬ xc = 4294967295 := by omega
  have ham0 : ¬ am < 0 := by omega
  have N9 := hide h
  obtain ⟨⟨c0, c1, c2, c3, c4, c5, c6, c7, c8, c9⟩, ⟨f0, f1, f2, f3, f4, f5, f6, f7, f8, f9⟩⟩ := sh_facts h
  clear h hc
  unfold totA at HSU
  go_enter Tryd.func8, Tryd.ntmps8
  go_wp2_with fail
  refine (HSU.out _).mono ?_
  rintro e w1 ⟨rfl, hb⟩
  have N8 := hide ((hb.block _ (heap_lt N9.out)).trans N9.out)
  have KK8 := hide ((SKO.refl [p] w).below hb)
  clear hb
  clear c0 c1 c2 c3 c4 c5 c6 c7 c8 c9 f0 f1 f2 f3 f4 f5 f6 f7 f8 f9
  obtain ⟨⟨c0, c1, c2, c3, c4, c5, c6, c7, c8, c9⟩, ⟨f0, f1, f2, f3, f4, f5, f6, f7, f8, f9⟩⟩ := sh_facts N8.out
  go_wp2_with fail
  refine (HAD.out _).mono ?_
  rintro e w2 ⟨rfl, rfl⟩
  go_upto_region 16 with (fail)
  obtain ⟨ol, hol⟩ : ∃ ol, ol = Obj.cells #[.int .i64 x, .int .i64 xv, .int .i64 xr, .int .i64 xi, .int .i64 xo] 59 := ⟨_, rfl⟩
  rw [← hol]
  have hal := (Below.refl w1.heap.size w1).alloc (Nat.le_refl _) ol
  have XL0 := hide (show (w1.alloc ol).drew.heap[w1.heap.size]? = _ from heap_new w1 ol)
  have N0 := hide (show (w1.alloc ol).drew.heap[p]? = _ from ((hal.block _ (heap_lt N8.out)).trans N8.out))
  have KK0 := hide (show SKO [p] w (w1.alloc ol).drew from (KK8.out.below hal).drew)
  have HNE := hide (show p ≠ w1.heap.size from by have := heap_lt N8.out; omega)
  clear hal
  clear c0 c1 c2 c3 c4 c5 c6 c7 c8 c9 f0 f1 f2 f3 f4 f5 f6 f7 f8 f9
  generalize w1.alloc ol = w5 at *
  generalize w1.heap.size = lb at *
  rw [hol] at XL0
  clear hol ol
  refine wp_region_held_drew (S := (fun W => W.cell? ⟨lb, 0, none⟩ = some (.int .i64 x) ∧ W.cell? ⟨lb, 1, none⟩ = some (.int .i64 xv) ∧ W.cell? ⟨lb, 2, none⟩ = some (.int .i64 xr) ∧ W.cell? ⟨lb, 3, none⟩ = some (.int .i64 xi) ∧ W.cell? ⟨lb, 4, none⟩ = some (.int .i64 xo))) (by kernel_rfl) (⟨cell_of_block XL0.out 0, cell_of_block XL0.out 1, cell_of_block XL0.out 2, cell_of_block XL0.out 3, cell_of_block XL0.out 4⟩) (fun hHeld => ?_)
  generalize w5.drew = u0 at *
  have c3 := (sh_facts N0.out).1.2.2.2.1
  refine wpAnyH_take (i := 0) (oi := { dst := some 62, op := Op.move (Operand.tmp 0), type := 23, pos := "shift.go:109", after := #[], guard := none }) (v := ?_) rfl (by kernel_rfl) (by kernel_rfl) (by kernel_rfl) (fun _ _ _ h => h) (Or.inl ⟨by kernel_rfl, ?_⟩) hHeld ?_
  rotate_left
  · (intro w hSw; (try dsimp only at hSw); go_simp); try with_reducible rfl
  try simp only [Act.put, List.setIfInBounds_toArray, List.set_cons_zero, List.set_cons_succ]
  refine wpAnyH_take (i := 1) (oi := { dst := some 63, op := Op.load 59 (Operand.tmp 7), type := 59, pos := "shift.go:109", after := #[], guard := none }) (v := ?_) rfl (by kernel_rfl) (by kernel_rfl) (by kernel_rfl) (fun _ _ _ h => h) (Or.inl ⟨by kernel_rfl, ?_⟩) hHeld ?_
  rotate_left
  · (intro w hSw; (try dsimp only at hSw); go_simp); try with_reducible rfl
  try simp only [Act.put, List.setIfInBounds_toArray, List.set_cons_zero, List.set_cons_succ]
  refine wpAnyH_take (i := 2) (oi := { dst := some 64, op := Op.move (Operand.tmp 0), type := 23, pos := "shift.go:109", after := #[], guard := none }) (v := ?_) rfl (by kernel_rfl) (by kernel_rfl) (by kernel_rfl) (fun _ _ _ h => h) (Or.inl ⟨by kernel_rfl, ?_⟩) hHeld ?_
  rotate_left
  · (intro w hSw; (try dsimp only at hSw); go_simp); try with_reducible rfl
  try simp only [Act.put, List.setIfInBounds_toArray, List.set_cons_zero, List.set_cons_succ]
  refine wpAnyH_take (i := 3) (oi := { dst := some 65, op := Op.nilCheck (Operand.tmp 64), type := 0, pos := "shift.go:109", after := #[{ on := 2, ground := Ground.data }], guard := none }) (v := ?_) rfl (by kernel_rfl) (by kernel_rfl) (by kernel_rfl) (fun _ _ _ h => h) (Or.inl ⟨by kernel_rfl, ?_⟩) hHeld ?_
  rotate_left
  · (intro w hSw; (try dsimp only at hSw); go_simp); try with_reducible rfl
  try simp only [Act.put, List.setIfInBounds_toArray, List.set_cons_zero, List.set_cons_succ]
  refine wpAnyH_take (i := 4) (oi := { dst := some 66, op := Op.fieldAddr 56 (Operand.tmp 65) 3, type := 0, pos := "shift.go:109", after := #[{ on := 3, ground := Ground.data }], guard := none }) (v := ?_) rfl (by kernel_rfl) (by kernel_rfl) (by kernel_rfl) (fun _ _ _ h => h) (Or.inl ⟨by kernel_rfl, ?_⟩) hHeld ?_
  rotate_left
  · (intro w hSw; (try dsimp only at hSw); go_simp); try with_reducible rfl
  try simp only [Act.put, List.setIfInBounds_toArray, List.set_cons_zero, List.set_cons_succ]
  refine wpAnyH_take (i := 5) (oi := { dst := some 67, op := Op.fieldAddr 34 (Operand.tmp 66) 0, type := 0, pos := "shift.go:109", after := #[{ on := 4, ground := Ground.data }], guard := none }) (v := ?_) rfl (by kernel_rfl) (by kernel_rfl) (by kernel_rfl) (fun _ _ _ h => h) (Or.inl ⟨by kernel_rfl, ?_⟩) hHeld ?_
  rotate_left
  · (intro w hSw; (try dsimp only at hSw); go_simp); try with_reducible rfl
  try simp only [Act.put, List.setIfInBounds_toArray, List.set_cons_zero, List.set_cons_succ]
  refine wpAnyH_ready (rs := [6]) (by kernel_rfl) (by simp) (AllReadyH.cons (o := { dst := some 68, op := Op.load 3 (Operand.tmp 67), type := 3, pos := "shift.go:109", after := #[{ on := 5, ground := Ground.data }], guard := none }) rfl (fun K hK => ?_) AllReadyH.nil)
  have hOld := hide hHeld
  clear hHeld
  go_simp
  clear c3
  (try go_wp2_with fail)
  refine hK.out _ _ (⟨cell_of_block XL0.out 0, cell_of_block XL0.out 1, cell_of_block XL0.out 2, cell_of_block XL0.out 3, cell_of_block XL0.out 4⟩) (fun hHeld => ?_)
  clear hK K hOld
  try simp only [Act.put, List.setIfInBounds_toArray, List.set_cons_zero, List.set_cons_succ]
  refine wpAnyH_take (i := 7) (oi := { dst := some 69, op := Op.binOp BinOp.add 3 (Operand.tmp 68) (Operand.const (Value.int IntKind.i64 1)) 3, type := 3, pos := "shift.go:109", after := #[{ on := 6, ground := Ground.data }], guard := none }) (v := ?_) rfl (by kernel_rfl) (by kernel_rfl) (by kernel_rfl) (fun _ _ _ h => h) (Or.inl ⟨by kernel_rfl, ?_⟩) hHeld ?_
  rotate_left
  · (intro w hSw; (try dsimp only at hSw); go_simp); try with_reducible rfl
  try simp only [Act.put, List.setIfInBounds_toArray, List.set_cons_zero, List.set_cons_succ]
  refine wpAnyH_ready (rs := [8]) (by kernel_rfl) (by simp) (AllReadyH.cons (o := { dst := some 70, op := Op.call { callee := Callee.value (Operand.func 19), args := #[Operand.tmp 63, Operand.tmp 69], argTypes := #[59, 3] }, type := 34, pos := "shift.go:109", after := #[{ on := 1, ground := Ground.data }, { on := 7, ground := Ground.data }], guard := none }) rfl (fun K hK => ?_) AllReadyH.nil)
  have hOld := hide hHeld
  clear hHeld
  go_simp
  refine (HTO.out _).mono ?_
  rintro e u1 ⟨rfl, hb⟩
  have XL1 := hide ((hb.block _ (heap_lt XL0.out)).trans XL0.out)
  have N1 := hide ((hb.block _ (heap_lt N0.out)).trans N0.out)
  have KK1 := hide (KK0.out.below hb)
  clear hb
  obtain ⟨⟨c0, c1, c2, c3, c4, c5, c6, c7, c8, c9⟩, ⟨f0, f1, f2, f3, f4, f5, f6, f7, f8, f9⟩⟩ := sh_facts N1.out
  unfold totA
  (try go_wp2_with fail)
  refine hK.out _ _ (⟨cell_of_block XL1.out 0, cell_of_block XL1.out 1, cell_of_block XL1.out 2, cell_of_block XL1.out 3, cell_of_block XL1.out 4⟩) (fun hHeld => ?_)
  clear hK K hOld
  try simp only [Act.put, List.setIfInBounds_toArray, List.set_cons_zero, List.set_cons_succ]
  refine wpAnyH_take (i := 9) (oi := { dst := some 71, op := Op.nilCheck (Operand.tmp 62), type := 0, pos := "shift.go:109", after := #[{ on := 0, ground := Ground.data }, { on := 0, ground := Ground.phase }, { on := 1, ground := Ground.phase }, { on := 2, ground := Ground.phase }, { on := 3, ground := Ground.phase }, { on := 4, ground := Ground.phase }, { on := 5, ground := Ground.phase }, { on := 6, ground := Ground.phase }, { on := 7, ground := Ground.phase }, { on := 8, ground := Ground.phase }], guard := none }) (v := ?_) rfl (by kernel_rfl) (by kernel_rfl) (by kernel_rfl) (fun _ _ _ h => h) (Or.inl ⟨by kernel_rfl, ?_⟩) hHeld ?_
  rotate_left
  · (intro w hSw; (try dsimp only at hSw); go_simp); try with_reducible rfl
  try simp only [Act.put, List.setIfInBounds_toArray, List.set_cons_zero, List.set_cons_succ]
  refine wpAnyH_take (i := 10) (oi := { dst := some 72, op := Op.fieldAddr 56 (Operand.tmp 71) 3, type := 0, pos := "shift.go:109", after := #[{ on := 9, ground := Ground.data }, { on := 0, ground := Ground.phase }, { on := 1, ground := Ground.phase }, { on := 2, ground := Ground.phase }, { on := 3, ground := Ground.phase }, { on := 4, ground := Ground.phase }, { on := 5, ground := Ground.phase }, { on := 6, ground := Ground.phase }, { on := 7, ground := Ground.phase }, { on := 8, ground := Ground.phase }], guard := none }) (v := ?_) rfl (by kernel_rfl) (by kernel_rfl) (by kernel_rfl) (fun _ _ _ h => h) (Or.inl ⟨by kernel_rfl, ?_⟩) hHeld ?_
  rotate_left
  · (intro w hSw; (try dsimp only at hSw); go_simp); try with_reducible rfl
  try simp only [Act.put, List.setIfInBounds_toArray, List.set_cons_zero, List.set_cons_succ]
  refine wpAnyH_ready (rs := [11]) (by kernel_rfl) (by simp) (AllReadyH.cons (o := { dst := none, op := Op.store 34 (Operand.tmp 72) (Operand.tmp 70), type := 0, pos := "shift.go:109", after := #[{ on := 10, ground := Ground.data }, { on := 8, ground := Ground.data }, { on := 8, ground := Ground.chain }, { on := 0, ground := Ground.phase }, { on := 1, ground := Ground.phase }, { on := 2, ground := Ground.phase }, { on := 3, ground := Ground.phase }, { on := 4, ground := Ground.phase }, { on := 5, ground := Ground.phase }, { on := 6, ground := Ground.phase }, { on := 7, ground := Ground.phase }, { on := 8, ground := Ground.phase }], guard := none }) rfl (fun K hK => ?_) AllReadyH.nil)
  have hOld := hide hHeld
  clear hHeld
  go_simp
  clear c0 c1 c2 c3 c4 c5 c6 c7 c8 c9 f0 f1 f2 f3 f4 f5 f6 f7 f8 f9
  have Nm0 := hide (show (u1.setCell ⟨p, 3, none⟩ (.int .i64 (xc + 1))).heap[p]? = some (.cells #[.int .i64 keep, .int .i64 next, .bool true, .int .i64 (xc + 1), .int .i64 xs, .int .i64 xv, .int .i64 xr, .int .i64 xi, .int .i64 xo, v] 56 (0, 0)) from block_setCell N1.out 3 (.int .i64 (xc + 1)))
  have Km0 := hide (KK1.out.set N1.out (List.mem_singleton.2 rfl) 3 (.int .i64 (xc + 1)))
  have Lm0 := hide ((block_setCell_other HNE.out 3 (.int .i64 (xc + 1))).trans XL1.out)
  generalize u1.setCell ⟨p, 3, none⟩ (.int .i64 (xc + 1)) = wm0 at *
  have Nm1 := hide (show (wm0.setCell ⟨p, 4, none⟩ (.int .i64 x)).heap[p]? = some (.cells #[.int .i64 keep, .int .i64 next, .bool true, .int .i64 (xc + 1), .int .i64 x, .int .i64 xv, .int .i64 xr, .int .i64 xi, .int .i64 xo, v] 56 (0, 0)) from block_setCell Nm0.out 4 (.int .i64 x))
  have Km1 := hide (Km0.out.set Nm0.out (List.mem_singleton.2 rfl) 4 (.int .i64 x))
  have Lm1 := hide ((block_setCell_other HNE.out 4 (.int .i64 x)).trans Lm0.out)
  generalize wm0.setCell ⟨p, 4, none⟩ (.int .i64 x) = wm1 at *
  have Nm2 := hide (show (wm1.setCell ⟨p, 5, none⟩ (.int .i64 xv)).heap[p]? = some (.cells #[.int .i64 keep, .int .i64 next, .bool true, .int .i64 (xc + 1), .int .i64 x, .int .i64 xv, .int .i64 xr, .int .i64 xi, .int .i64 xo, v] 56 (0, 0)) from block_setCell Nm1.out 5 (.int .i64 xv))
  have Km2 := hide (Km1.out.set Nm1.out (List.mem_singleton.2 rfl) 5 (.int .i64 xv))
  have Lm2 := hide ((block_setCell_other HNE.out 5 (.int .i64 xv)).trans Lm1.out)
  generalize wm1.setCell ⟨p, 5, none⟩ (.int .i64 xv) = wm2 at *
  have Nm3 := hide (show (wm2.setCell ⟨p, 6, none⟩ (.int .i64 xr)).heap[p]? = some (.cells #[.int .i64 keep, .int .i64 next, .bool true, .int .i64 (xc + 1), .int .i64 x, .int .i64 xv, .int .i64 xr, .int .i64 xi, .int .i64 xo, v] 56 (0, 0)) from block_setCell Nm2.out 6 (.int .i64 xr))
  have Km3 := hide (Km2.out.set Nm2.out (List.mem_singleton.2 rfl) 6 (.int .i64 xr))
  have Lm3 := hide ((block_setCell_other HNE.out 6 (.int .i64 xr)).trans Lm2.out)
  generalize wm2.setCell ⟨p, 6, none⟩ (.int .i64 xr) = wm3 at *
  have Nm4 := hide (show (wm3.setCell ⟨p, 7, none⟩ (.int .i64 xi)).heap[p]? = some (.cells #[.int .i64 keep, .int .i64 next, .bool true, .int .i64 (xc + 1), .int .i64 x, .int .i64 xv, .int .i64 xr, .int .i64 xi, .int .i64 xo, v] 56 (0, 0)) from block_setCell Nm3.out 7 (.int .i64 xi))
  have Km4 := hide (Km3.out.set Nm3.out (List.mem_singleton.2 rfl) 7 (.int .i64 xi))
  have Lm4 := hide ((block_setCell_other HNE.out 7 (.int .i64 xi)).trans Lm3.out)
  generalize wm3.setCell ⟨p, 7, none⟩ (.int .i64 xi) = wm4 at *
  have Nm5 := hide (show (wm4.setCell ⟨p, 8, none⟩ (.int .i64 xo)).heap[p]? = some (.cells #[.int .i64 keep, .int .i64 next, .bool true, .int .i64 (xc + 1), .int .i64 x, .int .i64 xv, .int .i64 xr, .int .i64 xi, .int .i64 xo, v] 56 (0, 0)) from block_setCell Nm4.out 8 (.int .i64 xo))
  have Km5 := hide (Km4.out.set Nm4.out (List.mem_singleton.2 rfl) 8 (.int .i64 xo))
  have Lm5 := hide ((block_setCell_other HNE.out 8 (.int .i64 xo)).trans Lm4.out)
  generalize wm4.setCell ⟨p, 8, none⟩ (.int .i64 xo) = wm5 at *
  (try go_wp2_with fail)
  refine hK.out _ _ (⟨cell_of_block Lm5.out 0, cell_of_block Lm5.out 1, cell_of_block Lm5.out 2, cell_of_block Lm5.out 3, cell_of_block Lm5.out 4⟩) (fun hHeld => ?_)
  clear hK K hOld
  try simp only [Act.put, List.setIfInBounds_toArray, List.set_cons_zero, List.set_cons_succ]
  refine wpAnyH_done (by kernel_rfl) ?_ _
  clear hHeld
  go_wp2_with fail
  go_ret
  exact ⟨rfl, Nm5.out, Km5.out⟩

set_option maxRecDepth 100000 in
set_option maxHeartbeats 1000000 in
theorem shadd_2 (p : Nat) (keep next xc xs xv xr xi xo : Int) (v : Value) (am : Int) (h0 : 0 ≤ am) (hc : 0 ≤ xc ∧ xc < 4294967295) (x : Int) (hs : inR xv) (ham : inR am) (hx : inR (xv + am)) (hxe : xv + am = x) (w : World) (h : w.heap[p]? = some (.cells #[.int .i64 keep, .int .i64 next, .bool true, .int .i64 xc, .int .i64 xs, .int .i64 xv, .int .i64 xr, .int .i64 xi, .int .i64 xo, v] 56 (0, 0))) :
    Calls Tryd.prog 8 #[.pointer (some ⟨p, 0, none⟩), .int .u8 2, .int .i64 am] w fun e w' => e = .returned (.int .i64 0) ∧ w'.heap[p]? = some (.cells #[.int .i64 keep, .int .i64 next, .bool true, .int .i64 (xc + 1), .int .i64 xs, .int .i64 x, .int .i64 xr, .int .i64 xi, .int .i64 xo, v] 56 (0, 0)) ∧ SKO [p] w w' := by
  have HSU := hide (fun W => sums_any xc xs xv xr xi xo W)
  have HTO := hide (fun W => totals_any (xc + 1) xs x xr xi xo W)
  have HAD := hide (fun W => cadd_any xv am hs ham W)
  rw [(sum_in hx).1, (sum_in hx).2, hxe] at HAD
  clear hx hxe hs ham
  have hwc : IntKind.i64.wrap (xc + 1) = xc + 1 := by rw [IntKind.wrap_i64]; omega
  have hc2 : ¬ xc = 4294967295 := by omega
  have ham0 : ¬ am < 0 := by omega
  have N9 := hide h
  obtain ⟨⟨c0, c1, c2, c3, c4, c5, c6, c7, c8, c9⟩, ⟨f0, f1, f2, f3, f4, f5, f6, f7, f8, f9⟩⟩ := sh_facts h
  clear h hc
  unfold totA at HSU
  go_enter Tryd.func8, Tryd.ntmps8
  go_wp2_with fail
  refine (HSU.out _).mono ?_
  rintro e w1 ⟨rfl, hb⟩
  have N8 := hide ((hb.block _ (heap_lt N9.out)).trans N9.out)
  have KK8 := hide ((SKO.refl [p] w).below hb)
  clear hb
  clear c0 c1 c2 c3 c4 c5 c6 c7 c8 c9 f0 f1 f2 f3 f4 f5 f6 f7 f8 f9
  obtain ⟨⟨c0, c1, c2, c3, c4, c5, c6, c7, c8, c9⟩, ⟨f0, f1, f2, f3, f4, f5, f6, f7, f8, f9⟩⟩ := sh_facts N8.out
  go_wp2_with fail
  refine (HAD.out _).mono ?_
  rintro e w2 ⟨rfl, rfl⟩
  go_upto_region 16 with (fail)
  obtain ⟨ol, hol⟩ : ∃ ol, ol = Obj.cells #[.int .i64 xs, .int .i64 x, .int .i64 xr, .int .i64 xi, .int .i64 xo] 59 := ⟨_, rfl⟩
  rw [← hol]
  have hal := (Below.refl w1.heap.size w1).alloc (Nat.le_refl _) ol
  have XL0 := hide (show (w1.alloc ol).drew.heap[w1.heap.size]? = _ from heap_new w1 ol)
  have N0 := hide (show (w1.alloc ol).drew.heap[p]? = _ from ((hal.block _ (heap_lt N8.out)).trans N8.out))
  have KK0 := hide (show SKO [p] w (w1.alloc ol).drew from (KK8.out.below hal).drew)
  have HNE := hide (show p ≠ w1.heap.size from by have := heap_lt N8.out; omega)
  clear hal
  clear c0 c1 c2 c3 c4 c5 c6 c7 c8 c9 f0 f1 f2 f3 f4 f5 f6 f7 f8 f9
  generalize w1.alloc ol = w5 at *
  generalize w1.heap.size = lb at *
  rw [hol] at XL0
  clear hol ol
  refine wp_region_held_drew (S := (fun W => W.cell? ⟨lb, 0, none⟩ = some (.int .i64 xs) ∧ W.cell? ⟨lb, 1, none⟩ = some (.int .i64 x) ∧ W.cell? ⟨lb, 2, none⟩ = some (.int .i64 xr) ∧ W.cell? ⟨lb, 3, none⟩ = some (.int .i64 xi) ∧ W.cell? ⟨lb, 4, none⟩ = some (.int .i64 xo))) (by kernel_rfl) (⟨cell_of_block XL0.out 0, cell_of_block XL0.out 1, cell_of_block XL0.out 2, cell_of_block XL0.out 3, cell_of_block XL0.out 4⟩) (fun hHeld => ?_)
  generalize w5.drew = u0 at *
  have c3 := (sh_facts N0.out).1.2.2.2.1
  refine wpAnyH_take (i := 0) (oi := { dst := some 62, op := Op.move (Operand.tmp 0), type := 23, pos := "shift.go:109", after := #[], guard := none }) (v := ?_) rfl (by kernel_rfl) (by kernel_rfl) (by kernel_rfl) (fun _ _ _ h => h) (Or.inl ⟨by kernel_rfl, ?_⟩) hHeld ?_
  rotate_left
  · (intro w hSw; (try dsimp only at hSw); go_simp); try with_reducible rfl
  try simp only [Act.put, List.setIfInBounds_toArray, List.set_cons_zero, List.set_cons_succ]
  refine wpAnyH_take (i := 1) (oi := { dst := some 63, op := Op.load 59 (Operand.tmp 7), type := 59, pos := "shift.go:109", after := #[], guard := none }) (v := ?_) rfl (by kernel_rfl) (by kernel_rfl) (by kernel_rfl) (fun _ _ _ h => h) (Or.inl ⟨by kernel_rfl, ?_⟩) hHeld ?_
  rotate_left
  · (intro w hSw; (try dsimp only at hSw); go_simp); try with_reducible rfl
  try simp only [Act.put, List.setIfInBounds_toArray, List.set_cons_zero, List.set_cons_succ]
  refine wpAnyH_take (i := 2) (oi := { dst := some 64, op := Op.move (Operand.tmp 0), type := 23, pos := "shift.go:109", after := #[], guard := none }) (v := ?_) rfl (by kernel_rfl) (by kernel_rfl) (by kernel_rfl) (fun _ _ _ h => h) (Or.inl ⟨by kernel_rfl, ?_⟩) hHeld ?_
  rotate_left
  · (intro w hSw; (try dsimp only at hSw); go_simp); try with_reducible rfl
  try simp only [Act.put, List.setIfInBounds_toArray, List.set_cons_zero, List.set_cons_succ]
  refine wpAnyH_take (i := 3) (oi := { dst := some 65, op := Op.nilCheck (Operand.tmp 64), type := 0, pos := "shift.go:109", after := #[{ on := 2, ground := Ground.data }], guard := none }) (v := ?_) rfl (by kernel_rfl) (by kernel_rfl) (by kernel_rfl) (fun _ _ _ h => h) (Or.inl ⟨by kernel_rfl, ?_⟩) hHeld ?_
  rotate_left
  · (intro w hSw; (try dsimp only at hSw); go_simp); try with_reducible rfl
  try simp only [Act.put, List.setIfInBounds_toArray, List.set_cons_zero, List.set_cons_succ]
  refine wpAnyH_take (i := 4) (oi := { dst := some 66, op := Op.fieldAddr 56 (Operand.tmp 65) 3, type := 0, pos := "shift.go:109", after := #[{ on := 3, ground := Ground.data }], guard := none }) (v := ?_) rfl (by kernel_rfl) (by kernel_rfl) (by kernel_rfl) (fun _ _ _ h => h) (Or.inl ⟨by kernel_rfl, ?_⟩) hHeld ?_
  rotate_left
  · (intro w hSw; (try dsimp only at hSw); go_simp); try with_reducible rfl
  try simp only [Act.put, List.setIfInBounds_toArray, List.set_cons_zero, List.set_cons_succ]
  refine wpAnyH_take (i := 5) (oi := { dst := some 67, op := Op.fieldAddr 34 (Operand.tmp 66) 0, type := 0, pos := "shift.go:109", after := #[{ on := 4, ground := Ground.data }], guard := none }) (v := ?_) rfl (by kernel_rfl) (by kernel_rfl) (by kernel_rfl) (fun _ _ _ h => h) (Or.inl ⟨by kernel_rfl, ?_⟩) hHeld ?_
  rotate_left
  · (intro w hSw; (try dsimp only at hSw); go_simp); try with_reducible rfl
  try simp only [Act.put, List.setIfInBounds_toArray, List.set_cons_zero, List.set_cons_succ]
  refine wpAnyH_ready (rs := [6]) (by kernel_rfl) (by simp) (AllReadyH.cons (o := { dst := some 68, op := Op.load 3 (Operand.tmp 67), type := 3, pos := "shift.go:109", after := #[{ on := 5, ground := Ground.data }], guard := none }) rfl (fun K hK => ?_) AllReadyH.nil)
  have hOld := hide hHeld
  clear hHeld
  go_simp
  clear c3
  (try go_wp2_with fail)
  refine hK.out _ _ (⟨cell_of_block XL0.out 0, cell_of_block XL0.out 1, cell_of_block XL0.out 2, cell_of_block XL0.out 3, cell_of_block XL0.out 4⟩) (fun hHeld => ?_)
  clear hK K hOld
  try simp only [Act.put, List.setIfInBounds_toArray, List.set_cons_zero, List.set_cons_succ]
  refine wpAnyH_take (i := 7) (oi := { dst := some 69, op := Op.binOp BinOp.add 3 (Operand.tmp 68) (Operand.const (Value.int IntKind.i64 1)) 3, type := 3, pos := "shift.go:109", after := #[{ on := 6, ground := Ground.data }], guard := none }) (v := ?_) rfl (by kernel_rfl) (by kernel_rfl) (by kernel_rfl) (fun _ _ _ h => h) (Or.inl ⟨by kernel_rfl, ?_⟩) hHeld ?_
  rotate_left
  · (intro w hSw; (try dsimp only at hSw); go_simp); try with_reducible rfl
  try simp only [Act.put, List.setIfInBounds_toArray, List.set_cons_zero, List.set_cons_succ]
  refine wpAnyH_ready (rs := [8]) (by kernel_rfl) (by simp) (AllReadyH.cons (o := { dst := some 70, op := Op.call { callee := Callee.value (Operand.func 19), args := #[Operand.tmp 63, Operand.tmp 69], argTypes := #[59, 3] }, type := 34, pos := "shift.go:109", after := #[{ on := 1, ground := Ground.data }, { on := 7, ground := Ground.data }], guard := none }) rfl (fun K hK => ?_) AllReadyH.nil)
  have hOld := hide hHeld
  clear hHeld
  go_simp
  refine (HTO.out _).mono ?_
  rintro e u1 ⟨rfl, hb⟩
  have XL1 := hide ((hb.block _ (heap_lt XL0.out)).trans XL0.out)
  have N1 := hide ((hb.block _ (heap_lt N0.out)).trans N0.out)
  have KK1 := hide (KK0.out.below hb)
  clear hb
  obtain ⟨⟨c0, c1, c2, c3, c4, c5, c6, c7, c8, c9⟩, ⟨f0, f1, f2, f3, f4, f5, f6, f7, f8, f9⟩⟩ := sh_facts N1.out
  unfold totA
  (try go_wp2_with fail)
  refine hK.out _ _ (⟨cell_of_block XL1.out 0, cell_of_block XL1.out 1, cell_of_block XL1.out 2, cell_of_block XL1.out 3, cell_of_block XL1.out 4⟩) (fun hHeld => ?_)
  clear hK K hOld
  try simp only [Act.put, List.setIfInBounds_toArray, List.set_cons_zero, List.set_cons_succ]
  refine wpAnyH_take (i := 9) (oi := { dst := some 71, op := Op.nilCheck (Operand.tmp 62), type := 0, pos := "shift.go:109", after := #[{ on := 0, ground := Ground.data }, { on := 0, ground := Ground.phase }, { on := 1, ground := Ground.phase }, { on := 2, ground := Ground.phase }, { on := 3, ground := Ground.phase }, { on := 4, ground := Ground.phase }, { on := 5, ground := Ground.phase }, { on := 6, ground := Ground.phase }, { on := 7, ground := Ground.phase }, { on := 8, ground := Ground.phase }], guard := none }) (v := ?_) rfl (by kernel_rfl) (by kernel_rfl) (by kernel_rfl) (fun _ _ _ h => h) (Or.inl ⟨by kernel_rfl, ?_⟩) hHeld ?_
  rotate_left
  · (intro w hSw; (try dsimp only at hSw); go_simp); try with_reducible rfl
  try simp only [Act.put, List.setIfInBounds_toArray, List.set_cons_zero, List.set_cons_succ]
  refine wpAnyH_take (i := 10) (oi := { dst := some 72, op := Op.fieldAddr 56 (Operand.tmp 71) 3, type := 0, pos := "shift.go:109", after := #[{ on := 9, ground := Ground.data }, { on := 0, ground := Ground.phase }, { on := 1, ground := Ground.phase }, { on := 2, ground := Ground.phase }, { on := 3, ground := Ground.phase }, { on := 4, ground := Ground.phase }, { on := 5, ground := Ground.phase }, { on := 6, ground := Ground.phase }, { on := 7, ground := Ground.phase }, { on := 8, ground := Ground.phase }], guard := none }) (v := ?_) rfl (by kernel_rfl) (by kernel_rfl) (by kernel_rfl) (fun _ _ _ h => h) (Or.inl ⟨by kernel_rfl, ?_⟩) hHeld ?_
  rotate_left
  · (intro w hSw; (try dsimp only at hSw); go_simp); try with_reducible rfl
  try simp only [Act.put, List.setIfInBounds_toArray, List.set_cons_zero, List.set_cons_succ]
  refine wpAnyH_ready (rs := [11]) (by kernel_rfl) (by simp) (AllReadyH.cons (o := { dst := none, op := Op.store 34 (Operand.tmp 72) (Operand.tmp 70), type := 0, pos := "shift.go:109", after := #[{ on := 10, ground := Ground.data }, { on := 8, ground := Ground.data }, { on := 8, ground := Ground.chain }, { on := 0, ground := Ground.phase }, { on := 1, ground := Ground.phase }, { on := 2, ground := Ground.phase }, { on := 3, ground := Ground.phase }, { on := 4, ground := Ground.phase }, { on := 5, ground := Ground.phase }, { on := 6, ground := Ground.phase }, { on := 7, ground := Ground.phase }, { on := 8, ground := Ground.phase }], guard := none }) rfl (fun K hK => ?_) AllReadyH.nil)
  have hOld := hide hHeld
  clear hHeld
  go_simp
  clear c0 c1 c2 c3 c4 c5 c6 c7 c8 c9 f0 f1 f2 f3 f4 f5 f6 f7 f8 f9
  have Nm0 := hide (show (u1.setCell ⟨p, 3, none⟩ (.int .i64 (xc + 1))).heap[p]? = some (.cells #[.int .i64 keep, .int .i64 next, .bool true, .int .i64 (xc + 1), .int .i64 xs, .int .i64 xv, .int .i64 xr, .int .i64 xi, .int .i64 xo, v] 56 (0, 0)) from block_setCell N1.out 3 (.int .i64 (xc + 1)))
  have Km0 := hide (KK1.out.set N1.out (List.mem_singleton.2 rfl) 3 (.int .i64 (xc + 1)))
  have Lm0 := hide ((block_setCell_other HNE.out 3 (.int .i64 (xc + 1))).trans XL1.out)
  generalize u1.setCell ⟨p, 3, none⟩ (.int .i64 (xc + 1)) = wm0 at *
  have Nm1 := hide (show (wm0.setCell ⟨p, 4, none⟩ (.int .i64 xs)).heap[p]? = some (.cells #[.int .i64 keep, .int .i64 next, .bool true, .int .i64 (xc + 1), .int .i64 xs, .int .i64 xv, .int .i64 xr, .int .i64 xi, .int .i64 xo, v] 56 (0, 0)) from block_setCell Nm0.out 4 (.int .i64 xs))
  have Km1 := hide (Km0.out.set Nm0.out (List.mem_singleton.2 rfl) 4 (.int .i64 xs))
  have Lm1 := hide ((block_setCell_other HNE.out 4 (.int .i64 xs)).trans Lm0.out)
  generalize wm0.setCell ⟨p, 4, none⟩ (.int .i64 xs) = wm1 at *
  have Nm2 := hide (show (wm1.setCell ⟨p, 5, none⟩ (.int .i64 x)).heap[p]? = some (.cells #[.int .i64 keep, .int .i64 next, .bool true, .int .i64 (xc + 1), .int .i64 xs, .int .i64 x, .int .i64 xr, .int .i64 xi, .int .i64 xo, v] 56 (0, 0)) from block_setCell Nm1.out 5 (.int .i64 x))
  have Km2 := hide (Km1.out.set Nm1.out (List.mem_singleton.2 rfl) 5 (.int .i64 x))
  have Lm2 := hide ((block_setCell_other HNE.out 5 (.int .i64 x)).trans Lm1.out)
  generalize wm1.setCell ⟨p, 5, none⟩ (.int .i64 x) = wm2 at *
  have Nm3 := hide (show (wm2.setCell ⟨p, 6, none⟩ (.int .i64 xr)).heap[p]? = some (.cells #[.int .i64 keep, .int .i64 next, .bool true, .int .i64 (xc + 1), .int .i64 xs, .int .i64 x, .int .i64 xr, .int .i64 xi, .int .i64 xo, v] 56 (0, 0)) from block_setCell Nm2.out 6 (.int .i64 xr))
  have Km3 := hide (Km2.out.set Nm2.out (List.mem_singleton.2 rfl) 6 (.int .i64 xr))
  have Lm3 := hide ((block_setCell_other HNE.out 6 (.int .i64 xr)).trans Lm2.out)
  generalize wm2.setCell ⟨p, 6, none⟩ (.int .i64 xr) = wm3 at *
  have Nm4 := hide (show (wm3.setCell ⟨p, 7, none⟩ (.int .i64 xi)).heap[p]? = some (.cells #[.int .i64 keep, .int .i64 next, .bool true, .int .i64 (xc + 1), .int .i64 xs, .int .i64 x, .int .i64 xr, .int .i64 xi, .int .i64 xo, v] 56 (0, 0)) from block_setCell Nm3.out 7 (.int .i64 xi))
  have Km4 := hide (Km3.out.set Nm3.out (List.mem_singleton.2 rfl) 7 (.int .i64 xi))
  have Lm4 := hide ((block_setCell_other HNE.out 7 (.int .i64 xi)).trans Lm3.out)
  generalize wm3.setCell ⟨p, 7, none⟩ (.int .i64 xi) = wm4 at *
  have Nm5 := hide (show (wm4.setCell ⟨p, 8, none⟩ (.int .i64 xo)).heap[p]? = some (.cells #[.int .i64 keep, .int .i64 next, .bool true, .int .i64 (xc + 1), .int .i64 xs, .int .i64 x, .int .i64 xr, .int .i64 xi, .int .i64 xo, v] 56 (0, 0)) from block_setCell Nm4.out 8 (.int .i64 xo))
  have Km5 := hide (Km4.out.set Nm4.out (List.mem_singleton.2 rfl) 8 (.int .i64 xo))
  have Lm5 := hide ((block_setCell_other HNE.out 8 (.int .i64 xo)).trans Lm4.out)
  generalize wm4.setCell ⟨p, 8, none⟩ (.int .i64 xo) = wm5 at *
  (try go_wp2_with fail)
  refine hK.out _ _ (⟨cell_of_block Lm5.out 0, cell_of_block Lm5.out 1, cell_of_block Lm5.out 2, cell_of_block Lm5.out 3, cell_of_block Lm5.out 4⟩) (fun hHeld => ?_)
  clear hK K hOld
  try simp only [Act.put, List.setIfInBounds_toArray, List.set_cons_zero, List.set_cons_succ]
  refine wpAnyH_done (by kernel_rfl) ?_ _
  clear hHeld
  go_wp2_with fail
  go_ret
  exact ⟨rfl, Nm5.out, Km5.out⟩

set_option maxRecDepth 100000 in
set_option maxHeartbeats 1000000 in
theorem shadd_3 (p : Nat) (keep next xc xs xv xr xi xo : Int) (v : Value) (am : Int) (h0 : 0 ≤ am) (hc : 0 ≤ xc ∧ xc < 4294967295) (x : Int) (hs : inR xr) (ham : inR am) (hx : inR (xr + am)) (hxe : xr + am = x) (w : World) (h : w.heap[p]? = some (.cells #[.int .i64 keep, .int .i64 next, .bool true, .int .i64 xc, .int .i64 xs, .int .i64 xv, .int .i64 xr, .int .i64 xi, .int .i64 xo, v] 56 (0, 0))) :
    Calls Tryd.prog 8 #[.pointer (some ⟨p, 0, none⟩), .int .u8 3, .int .i64 am] w fun e w' => e = .returned (.int .i64 0) ∧ w'.heap[p]? = some (.cells #[.int .i64 keep, .int .i64 next, .bool true, .int .i64 (xc + 1), .int .i64 xs, .int .i64 xv, .int .i64 x, .int .i64 xi, .int .i64 xo, v] 56 (0, 0)) ∧ SKO [p] w w' := by
  have HSU := hide (fun W => sums_any xc xs xv xr xi xo W)
  have HTO := hide (fun W => totals_any (xc + 1) xs xv x xi xo W)
  have HAD := hide (fun W => cadd_any xr am hs ham W)
  rw [(sum_in hx).1, (sum_in hx).2, hxe] at HAD
  clear hx hxe hs ham
  have hwc : IntKind.i64.wrap (xc + 1) = xc + 1 := by rw [IntKind.wrap_i64]; omega
  have hc2 : ¬ xc = 4294967295 := by omega
  have ham0 : ¬ am < 0 := by omega
  have N9 := hide h
  obtain ⟨⟨c0, c1, c2, c3, c4, c5, c6, c7, c8, c9⟩, ⟨f0, f1, f2, f3, f4, f5, f6, f7, f8, f9⟩⟩ := sh_facts h
  clear h hc
  unfold totA at HSU
  go_enter Tryd.func8, Tryd.ntmps8
  go_wp2_with fail
  refine (HSU.out _).mono ?_
  rintro e w1 ⟨rfl, hb⟩
  have N8 := hide ((hb.block _ (heap_lt N9.out)).trans N9.out)
  have KK8 := hide ((SKO.refl [p] w).below hb)
  clear hb
  clear c0 c1 c2 c3 c4 c5 c6 c7 c8 c9 f0 f1 f2 f3 f4 f5 f6 f7 f8 f9
  obtain ⟨⟨c0, c1, c2, c3, c4, c5, c6, c7, c8, c9⟩, ⟨f0, f1, f2, f3, f4, f5, f6, f7, f8, f9⟩⟩ := sh_facts N8.out
  go_wp2_with fail
  refine (HAD.out _).mono ?_
  rintro e w2 ⟨rfl, rfl⟩
  go_upto_region 16 with (fail)
  obtain ⟨ol, hol⟩ : ∃ ol, ol = Obj.cells #[.int .i64 xs, .int .i64 xv, .int .i64 x, .int .i64 xi, .int .i64 xo] 59 := ⟨_, rfl⟩
  rw [← hol]
  have hal := (Below.refl w1.heap.size w1).alloc (Nat.le_refl _) ol
  have XL0 := hide (show (w1.alloc ol).drew.heap[w1.heap.size]? = _ from heap_new w1 ol)
  have N0 := hide (show (w1.alloc ol).drew.heap[p]? = _ from ((hal.block _ (heap_lt N8.out)).trans N8.out))
  have KK0 := hide (show SKO [p] w (w1.alloc ol).drew from (KK8.out.below hal).drew)
  have HNE := hide (show p ≠ w1.heap.size from by have := heap_lt N8.out; omega)
  clear hal
  clear c0 c1 c2 c3 c4 c5 c6 c7 c8 c9 f0 f1 f2 f3 f4 f5 f6 f7 f8 f9
  generalize w1.alloc ol = w5 at *
  generalize w1.heap.size = lb at *
  rw [hol] at XL0
  clear hol ol
  refine wp_region_held_drew (S := (fun W => W.cell? ⟨lb, 0, none⟩ = some (.int .i64 xs) ∧ W.cell? ⟨lb, 1, none⟩ = some (.int .i64 xv) ∧ W.cell? ⟨lb, 2, none⟩ = some (.int .i64 x) ∧ W.cell? ⟨lb, 3, none⟩ = some (.int .i64 xi) ∧ W.cell? ⟨lb, 4, none⟩ = some (.int .i64 xo))) (by kernel_rfl) (⟨cell_of_block XL0.out 0, cell_of_block XL0.out 1, cell_of_block XL0.out 2, cell_of_block XL0.out 3, cell_of_block XL0.out 4⟩) (fun hHeld => ?_)
  generalize w5.drew = u0 at *
  have c3 := (sh_facts N0.out).1.2.2.2.1
  refine wpAnyH_take (i := 0) (oi := { dst := some 62, op := Op.move (Operand.tmp 0), type := 23, pos := "shift.go:109", after := #[], guard := none }) (v := ?_) rfl (by kernel_rfl) (by kernel_rfl) (by kernel_rfl) (fun _ _ _ h => h) (Or.inl ⟨by kernel_rfl, ?_⟩) hHeld ?_
  rotate_left
  · (intro w hSw; (try dsimp only at hSw); go_simp); try with_reducible rfl
  try simp only [Act.put, List.setIfInBounds_toArray, List.set_cons_zero, List.set_cons_succ]
  refine wpAnyH_take (i := 1) (oi := { dst := some 63, op := Op.load 59 (Operand.tmp 7), type := 59, pos := "shift.go:109", after := #[], guard := none }) (v := ?_) rfl (by kernel_rfl) (by kernel_rfl) (by kernel_rfl) (fun _ _ _ h => h) (Or.inl ⟨by kernel_rfl, ?_⟩) hHeld ?_
  rotate_left
  · (intro w hSw; (try dsimp only at hSw); go_simp); try with_reducible rfl
  try simp only [Act.put, List.setIfInBounds_toArray, List.set_cons_zero, List.set_cons_succ]
  refine wpAnyH_take (i := 2) (oi := { dst := some 64, op := Op.move (Operand.tmp 0), type := 23, pos := "shift.go:109", after := #[], guard := none }) (v := ?_) rfl (by kernel_rfl) (by kernel_rfl) (by kernel_rfl) (fun _ _ _ h => h) (Or.inl ⟨by kernel_rfl, ?_⟩) hHeld ?_
  rotate_left
  · (intro w hSw; (try dsimp only at hSw); go_simp); try with_reducible rfl
  try simp only [Act.put, List.setIfInBounds_toArray, List.set_cons_zero, List.set_cons_succ]
  refine wpAnyH_take (i := 3) (oi := { dst := some 65, op := Op.nilCheck (Operand.tmp 64), type := 0, pos := "shift.go:109", after := #[{ on := 2, ground := Ground.data }], guard := none }) (v := ?_) rfl (by kernel_rfl) (by kernel_rfl) (by kernel_rfl) (fun _ _ _ h => h) (Or.inl ⟨by kernel_rfl, ?_⟩) hHeld ?_
  rotate_left
  · (intro w hSw; (try dsimp only at hSw); go_simp); try with_reducible rfl
  try simp only [Act.put, List.setIfInBounds_toArray, List.set_cons_zero, List.set_cons_succ]
  refine wpAnyH_take (i := 4) (oi := { dst := some 66, op := Op.fieldAddr 56 (Operand.tmp 65) 3, type := 0, pos := "shift.go:109", after := #[{ on := 3, ground := Ground.data }], guard := none }) (v := ?_) rfl (by kernel_rfl) (by kernel_rfl) (by kernel_rfl) (fun _ _ _ h => h) (Or.inl ⟨by kernel_rfl, ?_⟩) hHeld ?_
  rotate_left
  · (intro w hSw; (try dsimp only at hSw); go_simp); try with_reducible rfl
  try simp only [Act.put, List.setIfInBounds_toArray, List.set_cons_zero, List.set_cons_succ]
  refine wpAnyH_take (i := 5) (oi := { dst := some 67, op := Op.fieldAddr 34 (Operand.tmp 66) 0, type := 0, pos := "shift.go:109", after := #[{ on := 4, ground := Ground.data }], guard := none }) (v := ?_) rfl (by kernel_rfl) (by kernel_rfl) (by kernel_rfl) (fun _ _ _ h => h) (Or.inl ⟨by kernel_rfl, ?_⟩) hHeld ?_
  rotate_left
  · (intro w hSw; (try dsimp only at hSw); go_simp); try with_reducible rfl
  try simp only [Act.put, List.setIfInBounds_toArray, List.set_cons_zero, List.set_cons_succ]
  refine wpAnyH_ready (rs := [6]) (by kernel_rfl) (by simp) (AllReadyH.cons (o := { dst := some 68, op := Op.load 3 (Operand.tmp 67), type := 3, pos := "shift.go:109", after := #[{ on := 5, ground := Ground.data }], guard := none }) rfl (fun K hK => ?_) AllReadyH.nil)
  have hOld := hide hHeld
  clear hHeld
  go_simp
  clear c3
  (try go_wp2_with fail)
  refine hK.out _ _ (⟨cell_of_block XL0.out 0, cell_of_block XL0.out 1, cell_of_block XL0.out 2, cell_of_block XL0.out 3, cell_of_block XL0.out 4⟩) (fun hHeld => ?_)
  clear hK K hOld
  try simp only [Act.put, List.setIfInBounds_toArray, List.set_cons_zero, List.set_cons_succ]
  refine wpAnyH_take (i := 7) (oi := { dst := some 69, op := Op.binOp BinOp.add 3 (Operand.tmp 68) (Operand.const (Value.int IntKind.i64 1)) 3, type := 3, pos := "shift.go:109", after := #[{ on := 6, ground := Ground.data }], guard := none }) (v := ?_) rfl (by kernel_rfl) (by kernel_rfl) (by kernel_rfl) (fun _ _ _ h => h) (Or.inl ⟨by kernel_rfl, ?_⟩) hHeld ?_
  rotate_left
  · (intro w hSw; (try dsimp only at hSw); go_simp); try with_reducible rfl
  try simp only [Act.put, List.setIfInBounds_toArray, List.set_cons_zero, List.set_cons_succ]
  refine wpAnyH_ready (rs := [8]) (by kernel_rfl) (by simp) (AllReadyH.cons (o := { dst := some 70, op := Op.call { callee := Callee.value (Operand.func 19), args := #[Operand.tmp 63, Operand.tmp 69], argTypes := #[59, 3] }, type := 34, pos := "shift.go:109", after := #[{ on := 1, ground := Ground.data }, { on := 7, ground := Ground.data }], guard := none }) rfl (fun K hK => ?_) AllReadyH.nil)
  have hOld := hide hHeld
  clear hHeld
  go_simp
  refine (HTO.out _).mono ?_
  rintro e u1 ⟨rfl, hb⟩
  have XL1 := hide ((hb.block _ (heap_lt XL0.out)).trans XL0.out)
  have N1 := hide ((hb.block _ (heap_lt N0.out)).trans N0.out)
  have KK1 := hide (KK0.out.below hb)
  clear hb
  obtain ⟨⟨c0, c1, c2, c3, c4, c5, c6, c7, c8, c9⟩, ⟨f0, f1, f2, f3, f4, f5, f6, f7, f8, f9⟩⟩ := sh_facts N1.out
  unfold totA
  (try go_wp2_with fail)
  refine hK.out _ _ (⟨cell_of_block XL1.out 0, cell_of_block XL1.out 1, cell_of_block XL1.out 2, cell_of_block XL1.out 3, cell_of_block XL1.out 4⟩) (fun hHeld => ?_)
  clear hK K hOld
  try simp only [Act.put, List.setIfInBounds_toArray, List.set_cons_zero, List.set_cons_succ]
  refine wpAnyH_take (i := 9) (oi := { dst := some 71, op := Op.nilCheck (Operand.tmp 62), type := 0, pos := "shift.go:109", after := #[{ on := 0, ground := Ground.data }, { on := 0, ground := Ground.phase }, { on := 1, ground := Ground.phase }, { on := 2, ground := Ground.phase }, { on := 3, ground := Ground.phase }, { on := 4, ground := Ground.phase }, { on := 5, ground := Ground.phase }, { on := 6, ground := Ground.phase }, { on := 7, ground := Ground.phase }, { on := 8, ground := Ground.phase }], guard := none }) (v := ?_) rfl (by kernel_rfl) (by kernel_rfl) (by kernel_rfl) (fun _ _ _ h => h) (Or.inl ⟨by kernel_rfl, ?_⟩) hHeld ?_
  rotate_left
  · (intro w hSw; (try dsimp only at hSw); go_simp); try with_reducible rfl
  try simp only [Act.put, List.setIfInBounds_toArray, List.set_cons_zero, List.set_cons_succ]
  refine wpAnyH_take (i := 10) (oi := { dst := some 72, op := Op.fieldAddr 56 (Operand.tmp 71) 3, type := 0, pos := "shift.go:109", after := #[{ on := 9, ground := Ground.data }, { on := 0, ground := Ground.phase }, { on := 1, ground := Ground.phase }, { on := 2, ground := Ground.phase }, { on := 3, ground := Ground.phase }, { on := 4, ground := Ground.phase }, { on := 5, ground := Ground.phase }, { on := 6, ground := Ground.phase }, { on := 7, ground := Ground.phase }, { on := 8, ground := Ground.phase }], guard := none }) (v := ?_) rfl (by kernel_rfl) (by kernel_rfl) (by kernel_rfl) (fun _ _ _ h => h) (Or.inl ⟨by kernel_rfl, ?_⟩) hHeld ?_
  rotate_left
  · (intro w hSw; (try dsimp only at hSw); go_simp); try with_reducible rfl
  try simp only [Act.put, List.setIfInBounds_toArray, List.set_cons_zero, List.set_cons_succ]
  refine wpAnyH_ready (rs := [11]) (by kernel_rfl) (by simp) (AllReadyH.cons (o := { dst := none, op := Op.store 34 (Operand.tmp 72) (Operand.tmp 70), type := 0, pos := "shift.go:109", after := #[{ on := 10, ground := Ground.data }, { on := 8, ground := Ground.data }, { on := 8, ground := Ground.chain }, { on := 0, ground := Ground.phase }, { on := 1, ground := Ground.phase }, { on := 2, ground := Ground.phase }, { on := 3, ground := Ground.phase }, { on := 4, ground := Ground.phase }, { on := 5, ground := Ground.phase }, { on := 6, ground := Ground.phase }, { on := 7, ground := Ground.phase }, { on := 8, ground := Ground.phase }], guard := none }) rfl (fun K hK => ?_) AllReadyH.nil)
  have hOld := hide hHeld
  clear hHeld
  go_simp
  clear c0 c1 c2 c3 c4 c5 c6 c7 c8 c9 f0 f1 f2 f3 f4 f5 f6 f7 f8 f9
  have Nm0 := hide (show (u1.setCell ⟨p, 3, none⟩ (.int .i64 (xc + 1))).heap[p]? = some (.cells #[.int .i64 keep, .int .i64 next, .bool true, .int .i64 (xc + 1), .int .i64 xs, .int .i64 xv, .int .i64 xr, .int .i64 xi, .int .i64 xo, v] 56 (0, 0)) from block_setCell N1.out 3 (.int .i64 (xc + 1)))
  have Km0 := hide (KK1.out.set N1.out (List.mem_singleton.2 rfl) 3 (.int .i64 (xc + 1)))
  have Lm0 := hide ((block_setCell_other HNE.out 3 (.int .i64 (xc + 1))).trans XL1.out)
  generalize u1.setCell ⟨p, 3, none⟩ (.int .i64 (xc + 1)) = wm0 at *
  have Nm1 := hide (show (wm0.setCell ⟨p, 4, none⟩ (.int .i64 xs)).heap[p]? = some (.cells #[.int .i64 keep, .int .i64 next, .bool true, .int .i64 (xc + 1), .int .i64 xs, .int .i64 xv, .int .i64 xr, .int .i64 xi, .int .i64 xo, v] 56 (0, 0)) from block_setCell Nm0.out 4 (.int .i64 xs))
  have Km1 := hide (Km0.out.set Nm0.out (List.mem_singleton.2 rfl) 4 (.int .i64 xs))
  have Lm1 := hide ((block_setCell_other HNE.out 4 (.int .i64 xs)).trans Lm0.out)
  generalize wm0.setCell ⟨p, 4, none⟩ (.int .i64 xs) = wm1 at *
  have Nm2 := hide (show (wm1.setCell ⟨p, 5, none⟩ (.int .i64 xv)).heap[p]? = some (.cells #[.int .i64 keep, .int .i64 next, .bool true, .int .i64 (xc + 1), .int .i64 xs, .int .i64 xv, .int .i64 xr, .int .i64 xi, .int .i64 xo, v] 56 (0, 0)) from block_setCell Nm1.out 5 (.int .i64 xv))
  have Km2 := hide (Km1.out.set Nm1.out (List.mem_singleton.2 rfl) 5 (.int .i64 xv))
  have Lm2 := hide ((block_setCell_other HNE.out 5 (.int .i64 xv)).trans Lm1.out)
  generalize wm1.setCell ⟨p, 5, none⟩ (.int .i64 xv) = wm2 at *
  have Nm3 := hide (show (wm2.setCell ⟨p, 6, none⟩ (.int .i64 x)).heap[p]? = some (.cells #[.int .i64 keep, .int .i64 next, .bool true, .int .i64 (xc + 1), .int .i64 xs, .int .i64 xv, .int .i64 x, .int .i64 xi, .int .i64 xo, v] 56 (0, 0)) from block_setCell Nm2.out 6 (.int .i64 x))
  have Km3 := hide (Km2.out.set Nm2.out (List.mem_singleton.2 rfl) 6 (.int .i64 x))
  have Lm3 := hide ((block_setCell_other HNE.out 6 (.int .i64 x)).trans Lm2.out)
  generalize wm2.setCell ⟨p, 6, none⟩ (.int .i64 x) = wm3 at *
  have Nm4 := hide (show (wm3.setCell ⟨p, 7, none⟩ (.int .i64 xi)).heap[p]? = some (.cells #[.int .i64 keep, .int .i64 next, .bool true, .int .i64 (xc + 1), .int .i64 xs, .int .i64 xv, .int .i64 x, .int .i64 xi, .int .i64 xo, v] 56 (0, 0)) from block_setCell Nm3.out 7 (.int .i64 xi))
  have Km4 := hide (Km3.out.set Nm3.out (List.mem_singleton.2 rfl) 7 (.int .i64 xi))
  have Lm4 := hide ((block_setCell_other HNE.out 7 (.int .i64 xi)).trans Lm3.out)
  generalize wm3.setCell ⟨p, 7, none⟩ (.int .i64 xi) = wm4 at *
  have Nm5 := hide (show (wm4.setCell ⟨p, 8, none⟩ (.int .i64 xo)).heap[p]? = some (.cells #[.int .i64 keep, .int .i64 next, .bool true, .int .i64 (xc + 1), .int .i64 xs, .int .i64 xv, .int .i64 x, .int .i64 xi, .int .i64 xo, v] 56 (0, 0)) from block_setCell Nm4.out 8 (.int .i64 xo))
  have Km5 := hide (Km4.out.set Nm4.out (List.mem_singleton.2 rfl) 8 (.int .i64 xo))
  have Lm5 := hide ((block_setCell_other HNE.out 8 (.int .i64 xo)).trans Lm4.out)
  generalize wm4.setCell ⟨p, 8, none⟩ (.int .i64 xo) = wm5 at *
  (try go_wp2_with fail)
  refine hK.out _ _ (⟨cell_of_block Lm5.out 0, cell_of_block Lm5.out 1, cell_of_block Lm5.out 2, cell_of_block Lm5.out 3, cell_of_block Lm5.out 4⟩) (fun hHeld => ?_)
  clear hK K hOld
  try simp only [Act.put, List.setIfInBounds_toArray, List.set_cons_zero, List.set_cons_succ]
  refine wpAnyH_done (by kernel_rfl) ?_ _
  clear hHeld
  go_wp2_with fail
  go_ret
  exact ⟨rfl, Nm5.out, Km5.out⟩

set_option maxRecDepth 100000 in
set_option maxHeartbeats 1000000 in
theorem shadd_4 (p : Nat) (keep next xc xs xv xr xi xo : Int) (v : Value) (am : Int) (h0 : 0 ≤ am) (hc : 0 ≤ xc ∧ xc < 4294967295) (x : Int) (hs : inR xi) (ham : inR am) (hx : inR (xi + am)) (hxe : xi + am = x) (w : World) (h : w.heap[p]? = some (.cells #[.int .i64 keep, .int .i64 next, .bool true, .int .i64 xc, .int .i64 xs, .int .i64 xv, .int .i64 xr, .int .i64 xi, .int .i64 xo, v] 56 (0, 0))) :
    Calls Tryd.prog 8 #[.pointer (some ⟨p, 0, none⟩), .int .u8 4, .int .i64 am] w fun e w' => e = .returned (.int .i64 0) ∧ w'.heap[p]? = some (.cells #[.int .i64 keep, .int .i64 next, .bool true, .int .i64 (xc + 1), .int .i64 xs, .int .i64 xv, .int .i64 xr, .int .i64 x, .int .i64 xo, v] 56 (0, 0)) ∧ SKO [p] w w' := by
  have HSU := hide (fun W => sums_any xc xs xv xr xi xo W)
  have HTO := hide (fun W => totals_any (xc + 1) xs xv xr x xo W)
  have HAD := hide (fun W => cadd_any xi am hs ham W)
  rw [(sum_in hx).1, (sum_in hx).2, hxe] at HAD
  clear hx hxe hs ham
  have hwc : IntKind.i64.wrap (xc + 1) = xc + 1 := by rw [IntKind.wrap_i64]; omega
  have hc2 : ¬ xc = 4294967295 := by omega
  have ham0 : ¬ am < 0 := by omega
  have N9 := hide h
  obtain ⟨⟨c0, c1, c2, c3, c4, c5, c6, c7, c8, c9⟩, ⟨f0, f1, f2, f3, f4, f5, f6, f7, f8, f9⟩⟩ := sh_facts h
  clear h hc
  unfold totA at HSU
  go_enter Tryd.func8, Tryd.ntmps8
  go_wp2_with fail
  refine (HSU.out _).mono ?_
  rintro e w1 ⟨rfl, hb⟩
  have N8 := hide ((hb.block _ (heap_lt N9.out)).trans N9.out)
  have KK8 := hide ((SKO.refl [p] w).below hb)
  clear hb
  clear c0 c1 c2 c3 c4 c5 c6 c7 c8 c9 f0 f1 f2 f3 f4 f5 f6 f7 f8 f9
  obtain ⟨⟨c0, c1, c2, c3, c4, c5, c6, c7, c8, c9⟩, ⟨f0, f1, f2, f3, f4, f5, f6, f7, f8, f9⟩⟩ := sh_facts N8.out
  go_wp2_with fail
  refine (HAD.out _).mono ?_
  rintro e w2 ⟨rfl, rfl⟩
  go_upto_region 16 with (fail)
  obtain ⟨ol, hol⟩ : ∃ ol, ol = Obj.cells #[.int .i64 xs, .int .i64 xv, .int .i64 xr, .int .i64 x, .int .i64 xo] 59 := ⟨_, rfl⟩
  rw [← hol]
  have hal := (Below.refl w1.heap.size w1).alloc (Nat.le_refl _) ol
  have XL0 := hide (show (w1.alloc ol).drew.heap[w1.heap.size]? = _ from heap_new w1 ol)
  have N0 := hide (show (w1.alloc ol).drew.heap[p]? = _ from ((hal.block _ (heap_lt N8.out)).trans N8.out))
  have KK0 := hide (show SKO [p] w (w1.alloc ol).drew from (KK8.out.below hal).drew)
  have HNE := hide (show p ≠ w1.heap.size from by have := heap_lt N8.out; omega)
  clear hal
  clear c0 c1 c2 c3 c4 c5 c6 c7 c8 c9 f0 f1 f2 f3 f4 f5 f6 f7 f8 f9
  generalize w1.alloc ol = w5 at *
  generalize w1.heap.size = lb at *
  rw [hol] at XL0
  clear hol ol
  refine wp_region_held_drew (S := (fun W => W.cell? ⟨lb, 0, none⟩ = some (.int .i64 xs) ∧ W.cell? ⟨lb, 1, none⟩ = some (.int .i64 xv) ∧ W.cell? ⟨lb, 2, none⟩ = some (.int .i64 xr) ∧ W.cell? ⟨lb, 3, none⟩ = some (.int .i64 x) ∧ W.cell? ⟨lb, 4, none⟩ = some (.int .i64 xo))) (by kernel_rfl) (⟨cell_of_block XL0.out 0, cell_of_block XL0.out 1, cell_of_block XL0.out 2, cell_of_block XL0.out 3, cell_of_block XL0.out 4⟩) (fun hHeld => ?_)
  generalize w5.drew = u0 at *
  have c3 := (sh_facts N0.out).1.2.2.2.1
  refine wpAnyH_take (i := 0) (oi := { dst := some 62, op := Op.move (Operand.tmp 0), type := 23, pos := "shift.go:109", after := #[], guard := none }) (v := ?_) rfl (by kernel_rfl) (by kernel_rfl) (by kernel_rfl) (fun _ _ _ h => h) (Or.inl ⟨by kernel_rfl, ?_⟩) hHeld ?_
  rotate_left
  · (intro w hSw; (try dsimp only at hSw); go_simp); try with_reducible rfl
  try simp only [Act.put, List.setIfInBounds_toArray, List.set_cons_zero, List.set_cons_succ]
  refine wpAnyH_take (i := 1) (oi := { dst := some 63, op := Op.load 59 (Operand.tmp 7), type := 59, pos := "shift.go:109", after := #[], guard := none }) (v := ?_) rfl (by kernel_rfl) (by kernel_rfl) (by kernel_rfl) (fun _ _ _ h => h) (Or.inl ⟨by kernel_rfl, ?_⟩) hHeld ?_
  rotate_left
  · (intro w hSw; (try dsimp only at hSw); go_simp); try with_reducible rfl
  try simp only [Act.put, List.setIfInBounds_toArray, List.set_cons_zero, List.set_cons_succ]
  refine wpAnyH_take (i := 2) (oi := { dst := some 64, op := Op.move (Operand.tmp 0), type := 23, pos := "shift.go:109", after := #[], guard := none }) (v := ?_) rfl (by kernel_rfl) (by kernel_rfl) (by kernel_rfl) (fun _ _ _ h => h) (Or.inl ⟨by kernel_rfl, ?_⟩) hHeld ?_
  rotate_left
  · (intro w hSw; (try dsimp only at hSw); go_simp); try with_reducible rfl
  try simp only [Act.put, List.setIfInBounds_toArray, List.set_cons_zero, List.set_cons_succ]
  refine wpAnyH_take (i := 3) (oi := { dst := some 65, op := Op.nilCheck (Operand.tmp 64), type := 0, pos := "shift.go:109", after := #[{ on := 2, ground := Ground.data }], guard := none }) (v := ?_) rfl (by kernel_rfl) (by kernel_rfl) (by kernel_rfl) (fun _ _ _ h => h) (Or.inl ⟨by kernel_rfl, ?_⟩) hHeld ?_
  rotate_left
  · (intro w hSw; (try dsimp only at hSw); go_simp); try with_reducible rfl
  try simp only [Act.put, List.setIfInBounds_toArray, List.set_cons_zero, List.set_cons_succ]
  refine wpAnyH_take (i := 4) (oi := { dst := some 66, op := Op.fieldAddr 56 (Operand.tmp 65) 3, type := 0, pos := "shift.go:109", after := #[{ on := 3, ground := Ground.data }], guard := none }) (v := ?_) rfl (by kernel_rfl) (by kernel_rfl) (by kernel_rfl) (fun _ _ _ h => h) (Or.inl ⟨by kernel_rfl, ?_⟩) hHeld ?_
  rotate_left
  · (intro w hSw; (try dsimp only at hSw); go_simp); try with_reducible rfl
  try simp only [Act.put, List.setIfInBounds_toArray, List.set_cons_zero, List.set_cons_succ]
  refine wpAnyH_take (i := 5) (oi := { dst := some 67, op := Op.fieldAddr 34 (Operand.tmp 66) 0, type := 0, pos := "shift.go:109", after := #[{ on := 4, ground := Ground.data }], guard := none }) (v := ?_) rfl (by kernel_rfl) (by kernel_rfl) (by kernel_rfl) (fun _ _ _ h => h) (Or.inl ⟨by kernel_rfl, ?_⟩) hHeld ?_
  rotate_left
  · (intro w hSw; (try dsimp only at hSw); go_simp); try with_reducible rfl
  try simp only [Act.put, List.setIfInBounds_toArray, List.set_cons_zero, List.set_cons_succ]
  refine wpAnyH_ready (rs := [6]) (by kernel_rfl) (by simp) (AllReadyH.cons (o := { dst := some 68, op := Op.load 3 (Operand.tmp 67), type := 3, pos := "shift.go:109", after := #[{ on := 5, ground := Ground.data }], guard := none }) rfl (fun K hK => ?_) AllReadyH.nil)
  have hOld := hide hHeld
  clear hHeld
  go_simp
  clear c3
  (try go_wp2_with fail)
  refine hK.out _ _ (⟨cell_of_block XL0.out 0, cell_of_block XL0.out 1, cell_of_block XL0.out 2, cell_of_block XL0.out 3, cell_of_block XL0.out 4⟩) (fun hHeld => ?_)
  clear hK K hOld
  try simp only [Act.put, List.setIfInBounds_toArray, List.set_cons_zero, List.set_cons_succ]
  refine wpAnyH_take (i := 7) (oi := { dst := some 69, op := Op.binOp BinOp.add 3 (Operand.tmp 68) (Operand.const (Value.int IntKind.i64 1)) 3, type := 3, pos := "shift.go:109", after := #[{ on := 6, ground := Ground.data }], guard := none }) (v := ?_) rfl (by kernel_rfl) (by kernel_rfl) (by kernel_rfl) (fun _ _ _ h => h) (Or.inl ⟨by kernel_rfl, ?_⟩) hHeld ?_
  rotate_left
  · (intro w hSw; (try dsimp only at hSw); go_simp); try with_reducible rfl
  try simp only [Act.put, List.setIfInBounds_toArray, List.set_cons_zero, List.set_cons_succ]
  refine wpAnyH_ready (rs := [8]) (by kernel_rfl) (by simp) (AllReadyH.cons (o := { dst := some 70, op := Op.call { callee := Callee.value (Operand.func 19), args := #[Operand.tmp 63, Operand.tmp 69], argTypes := #[59, 3] }, type := 34, pos := "shift.go:109", after := #[{ on := 1, ground := Ground.data }, { on := 7, ground := Ground.data }], guard := none }) rfl (fun K hK => ?_) AllReadyH.nil)
  have hOld := hide hHeld
  clear hHeld
  go_simp
  refine (HTO.out _).mono ?_
  rintro e u1 ⟨rfl, hb⟩
  have XL1 := hide ((hb.block _ (heap_lt XL0.out)).trans XL0.out)
  have N1 := hide ((hb.block _ (heap_lt N0.out)).trans N0.out)
  have KK1 := hide (KK0.out.below hb)
  clear hb
  obtain ⟨⟨c0, c1, c2, c3, c4, c5, c6, c7, c8, c9⟩, ⟨f0, f1, f2, f3, f4, f5, f6, f7, f8, f9⟩⟩ := sh_facts N1.out
  unfold totA
  (try go_wp2_with fail)
  refine hK.out _ _ (⟨cell_of_block XL1.out 0, cell_of_block XL1.out 1, cell_of_block XL1.out 2, cell_of_block XL1.out 3, cell_of_block XL1.out 4⟩) (fun hHeld => ?_)
  clear hK K hOld
  try simp only [Act.put, List.setIfInBounds_toArray, List.set_cons_zero, List.set_cons_succ]
  refine wpAnyH_take (i := 9) (oi := { dst := some 71, op := Op.nilCheck (Operand.tmp 62), type := 0, pos := "shift.go:109", after := #[{ on := 0, ground := Ground.data }, { on := 0, ground := Ground.phase }, { on := 1, ground := Ground.phase }, { on := 2, ground := Ground.phase }, { on := 3, ground := Ground.phase }, { on := 4, ground := Ground.phase }, { on := 5, ground := Ground.phase }, { on := 6, ground := Ground.phase }, { on := 7, ground := Ground.phase }, { on := 8, ground := Ground.phase }], guard := none }) (v := ?_) rfl (by kernel_rfl) (by kernel_rfl) (by kernel_rfl) (fun _ _ _ h => h) (Or.inl ⟨by kernel_rfl, ?_⟩) hHeld ?_
  rotate_left
  · (intro w hSw; (try dsimp only at hSw); go_simp); try with_reducible rfl
  try simp only [Act.put, List.setIfInBounds_toArray, List.set_cons_zero, List.set_cons_succ]
  refine wpAnyH_take (i := 10) (oi := { dst := some 72, op := Op.fieldAddr 56 (Operand.tmp 71) 3, type := 0, pos := "shift.go:109", after := #[{ on := 9, ground := Ground.data }, { on := 0, ground := Ground.phase }, { on := 1, ground := Ground.phase }, { on := 2, ground := Ground.phase }, { on := 3, ground := Ground.phase }, { on := 4, ground := Ground.phase }, { on := 5, ground := Ground.phase }, { on := 6, ground := Ground.phase }, { on := 7, ground := Ground.phase }, { on := 8, ground := Ground.phase }], guard := none }) (v := ?_) rfl (by kernel_rfl) (by kernel_rfl) (by kernel_rfl) (fun _ _ _ h => h) (Or.inl ⟨by kernel_rfl, ?_⟩) hHeld ?_
  rotate_left
  · (intro w hSw; (try dsimp only at hSw); go_simp); try with_reducible rfl
  try simp only [Act.put, List.setIfInBounds_toArray, List.set_cons_zero, List.set_cons_succ]
  refine wpAnyH_ready (rs := [11]) (by kernel_rfl) (by simp) (AllReadyH.cons (o := { dst := none, op := Op.store 34 (Operand.tmp 72) (Operand.tmp 70), type := 0, pos := "shift.go:109", after := #[{ on := 10, ground := Ground.data }, { on := 8, ground := Ground.data }, { on := 8, ground := Ground.chain }, { on := 0, ground := Ground.phase }, { on := 1, ground := Ground.phase }, { on := 2, ground := Ground.phase }, { on := 3, ground := Ground.phase }, { on := 4, ground := Ground.phase }, { on := 5, ground := Ground.phase }, { on := 6, ground := Ground.phase }, { on := 7, ground := Ground.phase }, { on := 8, ground := Ground.phase }], guard := none }) rfl (fun K hK => ?_) AllReadyH.nil)
  have hOld := hide hHeld
  clear hHeld
  go_simp
  clear c0 c1 c2 c3 c4 c5 c6 c7 c8 c9 f0 f1 f2 f3 f4 f5 f6 f7 f8 f9
  have Nm0 := hide (show (u1.setCell ⟨p, 3, none⟩ (.int .i64 (xc + 1))).heap[p]? = some (.cells #[.int .i64 keep, .int .i64 next, .bool true, .int .i64 (xc + 1), .int .i64 xs, .int .i64 xv, .int .i64 xr, .int .i64 xi, .int .i64 xo, v] 56 (0, 0)) from block_setCell N1.out 3 (.int .i64 (xc + 1)))
  have Km0 := hide (KK1.out.set N1.out (List.mem_singleton.2 rfl) 3 (.int .i64 (xc + 1)))
  have Lm0 := hide ((block_setCell_other HNE.out 3 (.int .i64 (xc + 1))).trans XL1.out)
  generalize u1.setCell ⟨p, 3, none⟩ (.int .i64 (xc + 1)) = wm0 at *
  have Nm1 := hide (show (wm0.setCell ⟨p, 4, none⟩ (.int .i64 xs)).heap[p]? = some (.cells #[.int .i64 keep, .int .i64 next, .bool true, .int .i64 (xc + 1), .int .i64 xs, .int .i64 xv, .int .i64 xr, .int .i64 xi, .int .i64 xo, v] 56 (0, 0)) from block_setCell Nm0.out 4 (.int .i64 xs))
  have Km1 := hide (Km0.out.set Nm0.out (List.mem_singleton.2 rfl) 4 (.int .i64 xs))
  have Lm1 := hide ((block_setCell_other HNE.out 4 (.int .i64 xs)).trans Lm0.out)
  generalize wm0.setCell ⟨p, 4, none⟩ (.int .i64 xs) = wm1 at *
  have Nm2 := hide (show (wm1.setCell ⟨p, 5, none⟩ (.int .i64 xv)).heap[p]? = some (.cells #[.int .i64 keep, .int .i64 next, .bool true, .int .i64 (xc + 1), .int .i64 xs, .int .i64 xv, .int .i64 xr, .int .i64 xi, .int .i64 xo, v] 56 (0, 0)) from block_setCell Nm1.out 5 (.int .i64 xv))
  have Km2 := hide (Km1.out.set Nm1.out (List.mem_singleton.2 rfl) 5 (.int .i64 xv))
  have Lm2 := hide ((block_setCell_other HNE.out 5 (.int .i64 xv)).trans Lm1.out)
  generalize wm1.setCell ⟨p, 5, none⟩ (.int .i64 xv) = wm2 at *
  have Nm3 := hide (show (wm2.setCell ⟨p, 6, none⟩ (.int .i64 xr)).heap[p]? = some (.cells #[.int .i64 keep, .int .i64 next, .bool true, .int .i64 (xc + 1), .int .i64 xs, .int .i64 xv, .int .i64 xr, .int .i64 xi, .int .i64 xo, v] 56 (0, 0)) from block_setCell Nm2.out 6 (.int .i64 xr))
  have Km3 := hide (Km2.out.set Nm2.out (List.mem_singleton.2 rfl) 6 (.int .i64 xr))
  have Lm3 := hide ((block_setCell_other HNE.out 6 (.int .i64 xr)).trans Lm2.out)
  generalize wm2.setCell ⟨p, 6, none⟩ (.int .i64 xr) = wm3 at *
  have Nm4 := hide (show (wm3.setCell ⟨p, 7, none⟩ (.int .i64 x)).heap[p]? = some (.cells #[.int .i64 keep, .int .i64 next, .bool true, .int .i64 (xc + 1), .int .i64 xs, .int .i64 xv, .int .i64 xr, .int .i64 x, .int .i64 xo, v] 56 (0, 0)) from block_setCell Nm3.out 7 (.int .i64 x))
  have Km4 := hide (Km3.out.set Nm3.out (List.mem_singleton.2 rfl) 7 (.int .i64 x))
  have Lm4 := hide ((block_setCell_other HNE.out 7 (.int .i64 x)).trans Lm3.out)
  generalize wm3.setCell ⟨p, 7, none⟩ (.int .i64 x) = wm4 at *
  have Nm5 := hide (show (wm4.setCell ⟨p, 8, none⟩ (.int .i64 xo)).heap[p]? = some (.cells #[.int .i64 keep, .int .i64 next, .bool true, .int .i64 (xc + 1), .int .i64 xs, .int .i64 xv, .int .i64 xr, .int .i64 x, .int .i64 xo, v] 56 (0, 0)) from block_setCell Nm4.out 8 (.int .i64 xo))
  have Km5 := hide (Km4.out.set Nm4.out (List.mem_singleton.2 rfl) 8 (.int .i64 xo))
  have Lm5 := hide ((block_setCell_other HNE.out 8 (.int .i64 xo)).trans Lm4.out)
  generalize wm4.setCell ⟨p, 8, none⟩ (.int .i64 xo) = wm5 at *
  (try go_wp2_with fail)
  refine hK.out _ _ (⟨cell_of_block Lm5.out 0, cell_of_block Lm5.out 1, cell_of_block Lm5.out 2, cell_of_block Lm5.out 3, cell_of_block Lm5.out 4⟩) (fun hHeld => ?_)
  clear hK K hOld
  try simp only [Act.put, List.setIfInBounds_toArray, List.set_cons_zero, List.set_cons_succ]
  refine wpAnyH_done (by kernel_rfl) ?_ _
  clear hHeld
  go_wp2_with fail
  go_ret
  exact ⟨rfl, Nm5.out, Km5.out⟩

set_option maxRecDepth 100000 in
set_option maxHeartbeats 1000000 in
theorem shadd_5 (p : Nat) (keep next xc xs xv xr xi xo : Int) (v : Value) (am : Int) (h0 : 0 ≤ am) (hc : 0 ≤ xc ∧ xc < 4294967295) (x : Int) (hs : inR xo) (ham : inR am) (hx : inR (xo + am)) (hxe : xo + am = x) (w : World) (h : w.heap[p]? = some (.cells #[.int .i64 keep, .int .i64 next, .bool true, .int .i64 xc, .int .i64 xs, .int .i64 xv, .int .i64 xr, .int .i64 xi, .int .i64 xo, v] 56 (0, 0))) :
    Calls Tryd.prog 8 #[.pointer (some ⟨p, 0, none⟩), .int .u8 5, .int .i64 am] w fun e w' => e = .returned (.int .i64 0) ∧ w'.heap[p]? = some (.cells #[.int .i64 keep, .int .i64 next, .bool true, .int .i64 (xc + 1), .int .i64 xs, .int .i64 xv, .int .i64 xr, .int .i64 xi, .int .i64 x, v] 56 (0, 0)) ∧ SKO [p] w w' := by
  have HSU := hide (fun W => sums_any xc xs xv xr xi xo W)
  have HTO := hide (fun W => totals_any (xc + 1) xs xv xr xi x W)
  have HAD := hide (fun W => cadd_any xo am hs ham W)
  rw [(sum_in hx).1, (sum_in hx).2, hxe] at HAD
  clear hx hxe hs ham
  have hwc : IntKind.i64.wrap (xc + 1) = xc + 1 := by rw [IntKind.wrap_i64]; omega
  have hc2 : ¬ xc = 4294967295 := by omega
  have ham0 : ¬ am < 0 := by omega
  have N9 := hide h
  obtain ⟨⟨c0, c1, c2, c3, c4, c5, c6, c7, c8, c9⟩, ⟨f0, f1, f2, f3, f4, f5, f6, f7, f8, f9⟩⟩ := sh_facts h
  clear h hc
  unfold totA at HSU
  go_enter Tryd.func8, Tryd.ntmps8
  go_wp2_with fail
  refine (HSU.out _).mono ?_
  rintro e w1 ⟨rfl, hb⟩
  have N8 := hide ((hb.block _ (heap_lt N9.out)).trans N9.out)
  have KK8 := hide ((SKO.refl [p] w).below hb)
  clear hb
  clear c0 c1 c2 c3 c4 c5 c6 c7 c8 c9 f0 f1 f2 f3 f4 f5 f6 f7 f8 f9
  obtain ⟨⟨c0, c1, c2, c3, c4, c5, c6, c7, c8, c9⟩, ⟨f0, f1, f2, f3, f4, f5, f6, f7, f8, f9⟩⟩ := sh_facts N8.out
  go_wp2_with fail
  refine (HAD.out _).mono ?_
  rintro e w2 ⟨rfl, rfl⟩
  go_upto_region 16 with (fail)
  obtain ⟨ol, hol⟩ : ∃ ol, ol = Obj.cells #[.int .i64 xs, .int .i64 xv, .int .i64 xr, .int .i64 xi, .int .i64 x] 59 := ⟨_, rfl⟩
  rw [← hol]
  have hal := (Below.refl w1.heap.size w1).alloc (Nat.le_refl _) ol
  have XL0 := hide (show (w1.alloc ol).drew.heap[w1.heap.size]? = _ from heap_new w1 ol)
  have N0 := hide (show (w1.alloc ol).drew.heap[p]? = _ from ((hal.block _ (heap_lt N8.out)).trans N8.out))
  have KK0 := hide (show SKO [p] w (w1.alloc ol).drew from (KK8.out.below hal).drew)
  have HNE := hide (show p ≠ w1.heap.size from by have := heap_lt N8.out; omega)
  clear hal
  clear c0 c1 c2 c3 c4 c5 c6 c7 c8 c9 f0 f1 f2 f3 f4 f5 f6 f7 f8 f9
  generalize w1.alloc ol = w5 at *
  generalize w1.heap.size = lb at *
  rw [hol] at XL0
  clear hol ol
  refine wp_region_held_drew (S := (fun W => W.cell? ⟨lb, 0, none⟩ = some (.int .i64 xs) ∧ W.cell? ⟨lb, 1, none⟩ = some (.int .i64 xv) ∧ W.cell? ⟨lb, 2, none⟩ = some (.int .i64 xr) ∧ W.cell? ⟨lb, 3, none⟩ = some (.int .i64 xi) ∧ W.cell? ⟨lb, 4, none⟩ = some (.int .i64 x))) (by kernel_rfl) (⟨cell_of_block XL0.out 0, cell_of_block XL0.out 1, cell_of_block XL0.out 2, cell_of_block XL0.out 3, cell_of_block XL0.out 4⟩) (fun hHeld => ?_)
  generalize w5.drew = u0 at *
  have c3 := (sh_facts N0.out).1.2.2.2.1
  refine wpAnyH_take (i := 0) (oi := { dst := some 62, op := Op.move (Operand.tmp 0), type := 23, pos := "shift.go:109", after := #[], guard := none }) (v := ?_) rfl (by kernel_rfl) (by kernel_rfl) (by kernel_rfl) (fun _ _ _ h => h) (Or.inl ⟨by kernel_rfl, ?_⟩) hHeld ?_
  rotate_left
  · (intro w hSw; (try dsimp only at hSw); go_simp); try with_reducible rfl
  try simp only [Act.put, List.setIfInBounds_toArray, List.set_cons_zero, List.set_cons_succ]
  refine wpAnyH_take (i := 1) (oi := { dst := some 63, op := Op.load 59 (Operand.tmp 7), type := 59, pos := "shift.go:109", after := #[], guard := none }) (v := ?_) rfl (by kernel_rfl) (by kernel_rfl) (by kernel_rfl) (fun _ _ _ h => h) (Or.inl ⟨by kernel_rfl, ?_⟩) hHeld ?_
  rotate_left
  · (intro w hSw; (try dsimp only at hSw); go_simp); try with_reducible rfl
  try simp only [Act.put, List.setIfInBounds_toArray, List.set_cons_zero, List.set_cons_succ]
  refine wpAnyH_take (i := 2) (oi := { dst := some 64, op := Op.move (Operand.tmp 0), type := 23, pos := "shift.go:109", after := #[], guard := none }) (v := ?_) rfl (by kernel_rfl) (by kernel_rfl) (by kernel_rfl) (fun _ _ _ h => h) (Or.inl ⟨by kernel_rfl, ?_⟩) hHeld ?_
  rotate_left
  · (intro w hSw; (try dsimp only at hSw); go_simp); try with_reducible rfl
  try simp only [Act.put, List.setIfInBounds_toArray, List.set_cons_zero, List.set_cons_succ]
  refine wpAnyH_take (i := 3) (oi := { dst := some 65, op := Op.nilCheck (Operand.tmp 64), type := 0, pos := "shift.go:109", after := #[{ on := 2, ground := Ground.data }], guard := none }) (v := ?_) rfl (by kernel_rfl) (by kernel_rfl) (by kernel_rfl) (fun _ _ _ h => h) (Or.inl ⟨by kernel_rfl, ?_⟩) hHeld ?_
  rotate_left
  · (intro w hSw; (try dsimp only at hSw); go_simp); try with_reducible rfl
  try simp only [Act.put, List.setIfInBounds_toArray, List.set_cons_zero, List.set_cons_succ]
  refine wpAnyH_take (i := 4) (oi := { dst := some 66, op := Op.fieldAddr 56 (Operand.tmp 65) 3, type := 0, pos := "shift.go:109", after := #[{ on := 3, ground := Ground.data }], guard := none }) (v := ?_) rfl (by kernel_rfl) (by kernel_rfl) (by kernel_rfl) (fun _ _ _ h => h) (Or.inl ⟨by kernel_rfl, ?_⟩) hHeld ?_
  rotate_left
  · (intro w hSw; (try dsimp only at hSw); go_simp); try with_reducible rfl
  try simp only [Act.put, List.setIfInBounds_toArray, List.set_cons_zero, List.set_cons_succ]
  refine wpAnyH_take (i := 5) (oi := { dst := some 67, op := Op.fieldAddr 34 (Operand.tmp 66) 0, type := 0, pos := "shift.go:109", after := #[{ on := 4, ground := Ground.data }], guard := none }) (v := ?_) rfl (by kernel_rfl) (by kernel_rfl) (by kernel_rfl) (fun _ _ _ h => h) (Or.inl ⟨by kernel_rfl, ?_⟩) hHeld ?_
  rotate_left
  · (intro w hSw; (try dsimp only at hSw); go_simp); try with_reducible rfl
  try simp only [Act.put, List.setIfInBounds_toArray, List.set_cons_zero, List.set_cons_succ]
  refine wpAnyH_ready (rs := [6]) (by kernel_rfl) (by simp) (AllReadyH.cons (o := { dst := some 68, op := Op.load 3 (Operand.tmp 67), type := 3, pos := "shift.go:109", after := #[{ on := 5, ground := Ground.data }], guard := none }) rfl (fun K hK => ?_) AllReadyH.nil)
  have hOld := hide hHeld
  clear hHeld
  go_simp
  clear c3
  (try go_wp2_with fail)
  refine hK.out _ _ (⟨cell_of_block XL0.out 0, cell_of_block XL0.out 1, cell_of_block XL0.out 2, cell_of_block XL0.out 3, cell_of_block XL0.out 4⟩) (fun hHeld => ?_)
  clear hK K hOld
  try simp only [Act.put, List.setIfInBounds_toArray, List.set_cons_zero, List.set_cons_succ]
  refine wpAnyH_take (i := 7) (oi := { dst := some 69, op := Op.binOp BinOp.add 3 (Operand.tmp 68) (Operand.const (Value.int IntKind.i64 1)) 3, type := 3, pos := "shift.go:109", after := #[{ on := 6, ground := Ground.data }], guard := none }) (v := ?_) rfl (by kernel_rfl) (by kernel_rfl) (by kernel_rfl) (fun _ _ _ h => h) (Or.inl ⟨by kernel_rfl, ?_⟩) hHeld ?_
  rotate_left
  · (intro w hSw; (try dsimp only at hSw); go_simp); try with_reducible rfl
  try simp only [Act.put, List.setIfInBounds_toArray, List.set_cons_zero, List.set_cons_succ]
  refine wpAnyH_ready (rs := [8]) (by kernel_rfl) (by simp) (AllReadyH.cons (o := { dst := some 70, op := Op.call { callee := Callee.value (Operand.func 19), args := #[Operand.tmp 63, Operand.tmp 69], argTypes := #[59, 3] }, type := 34, pos := "shift.go:109", after := #[{ on := 1, ground := Ground.data }, { on := 7, ground := Ground.data }], guard := none }) rfl (fun K hK => ?_) AllReadyH.nil)
  have hOld := hide hHeld
  clear hHeld
  go_simp
  refine (HTO.out _).mono ?_
  rintro e u1 ⟨rfl, hb⟩
  have XL1 := hide ((hb.block _ (heap_lt XL0.out)).trans XL0.out)
  have N1 := hide ((hb.block _ (heap_lt N0.out)).trans N0.out)
  have KK1 := hide (KK0.out.below hb)
  clear hb
  obtain ⟨⟨c0, c1, c2, c3, c4, c5, c6, c7, c8, c9⟩, ⟨f0, f1, f2, f3, f4, f5, f6, f7, f8, f9⟩⟩ := sh_facts N1.out
  unfold totA
  (try go_wp2_with fail)
  refine hK.out _ _ (⟨cell_of_block XL1.out 0, cell_of_block XL1.out 1, cell_of_block XL1.out 2, cell_of_block XL1.out 3, cell_of_block XL1.out 4⟩) (fun hHeld => ?_)
  clear hK K hOld
  try simp only [Act.put, List.setIfInBounds_toArray, List.set_cons_zero, List.set_cons_succ]
  refine wpAnyH_take (i := 9) (oi := { dst := some 71, op := Op.nilCheck (Operand.tmp 62), type := 0, pos := "shift.go:109", after := #[{ on := 0, ground := Ground.data }, { on := 0, ground := Ground.phase }, { on := 1, ground := Ground.phase }, { on := 2, ground := Ground.phase }, { on := 3, ground := Ground.phase }, { on := 4, ground := Ground.phase }, { on := 5, ground := Ground.phase }, { on := 6, ground := Ground.phase }, { on := 7, ground := Ground.phase }, { on := 8, ground := Ground.phase }], guard := none }) (v := ?_) rfl (by kernel_rfl) (by kernel_rfl) (by kernel_rfl) (fun _ _ _ h => h) (Or.inl ⟨by kernel_rfl, ?_⟩) hHeld ?_
  rotate_left
  · (intro w hSw; (try dsimp only at hSw); go_simp); try with_reducible rfl
  try simp only [Act.put, List.setIfInBounds_toArray, List.set_cons_zero, List.set_cons_succ]
  refine wpAnyH_take (i := 10) (oi := { dst := some 72, op := Op.fieldAddr 56 (Operand.tmp 71) 3, type := 0, pos := "shift.go:109", after := #[{ on := 9, ground := Ground.data }, { on := 0, ground := Ground.phase }, { on := 1, ground := Ground.phase }, { on := 2, ground := Ground.phase }, { on := 3, ground := Ground.phase }, { on := 4, ground := Ground.phase }, { on := 5, ground := Ground.phase }, { on := 6, ground := Ground.phase }, { on := 7, ground := Ground.phase }, { on := 8, ground := Ground.phase }], guard := none }) (v := ?_) rfl (by kernel_rfl) (by kernel_rfl) (by kernel_rfl) (fun _ _ _ h => h) (Or.inl ⟨by kernel_rfl, ?_⟩) hHeld ?_
  rotate_left
  · (intro w hSw; (try dsimp only at hSw); go_simp); try with_reducible rfl
  try simp only [Act.put, List.setIfInBounds_toArray, List.set_cons_zero, List.set_cons_succ]
  refine wpAnyH_ready (rs := [11]) (by kernel_rfl) (by simp) (AllReadyH.cons (o := { dst := none, op := Op.store 34 (Operand.tmp 72) (Operand.tmp 70), type := 0, pos := "shift.go:109", after := #[{ on := 10, ground := Ground.data }, { on := 8, ground := Ground.data }, { on := 8, ground := Ground.chain }, { on := 0, ground := Ground.phase }, { on := 1, ground := Ground.phase }, { on := 2, ground := Ground.phase }, { on := 3, ground := Ground.phase }, { on := 4, ground := Ground.phase }, { on := 5, ground := Ground.phase }, { on := 6, ground := Ground.phase }, { on := 7, ground := Ground.phase }, { on := 8, ground := Ground.phase }], guard := none }) rfl (fun K hK => ?_) AllReadyH.nil)
  have hOld := hide hHeld
  clear hHeld
  go_simp
  clear c0 c1 c2 c3 c4 c5 c6 c7 c8 c9 f0 f1 f2 f3 f4 f5 f6 f7 f8 f9
  have Nm0 := hide (show (u1.setCell ⟨p, 3, none⟩ (.int .i64 (xc + 1))).heap[p]? = some (.cells #[.int .i64 keep, .int .i64 next, .bool true, .int .i64 (xc + 1), .int .i64 xs, .int .i64 xv, .int .i64 xr, .int .i64 xi, .int .i64 xo, v] 56 (0, 0)) from block_setCell N1.out 3 (.int .i64 (xc + 1)))
  have Km0 := hide (KK1.out.set N1.out (List.mem_singleton.2 rfl) 3 (.int .i64 (xc + 1)))
  have Lm0 := hide ((block_setCell_other HNE.out 3 (.int .i64 (xc + 1))).trans XL1.out)
  generalize u1.setCell ⟨p, 3, none⟩ (.int .i64 (xc + 1)) = wm0 at *
  have Nm1 := hide (show (wm0.setCell ⟨p, 4, none⟩ (.int .i64 xs)).heap[p]? = some (.cells #[.int .i64 keep, .int .i64 next, .bool true, .int .i64 (xc + 1), .int .i64 xs, .int .i64 xv, .int .i64 xr, .int .i64 xi, .int .i64 xo, v] 56 (0, 0)) from block_setCell Nm0.out 4 (.int .i64 xs))
  have Km1 := hide (Km0.out.set Nm0.out (List.mem_singleton.2 rfl) 4 (.int .i64 xs))
  have Lm1 := hide ((block_setCell_other HNE.out 4 (.int .i64 xs)).trans Lm0.out)
  generalize wm0.setCell ⟨p, 4, none⟩ (.int .i64 xs) = wm1 at *
  have Nm2 := hide (show (wm1.setCell ⟨p, 5, none⟩ (.int .i64 xv)).heap[p]? = some (.cells #[.int .i64 keep, .int .i64 next, .bool true, .int .i64 (xc + 1), .int .i64 xs, .int .i64 xv, .int .i64 xr, .int .i64 xi, .int .i64 xo, v] 56 (0, 0)) from block_setCell Nm1.out 5 (.int .i64 xv))
  have Km2 := hide (Km1.out.set Nm1.out (List.mem_singleton.2 rfl) 5 (.int .i64 xv))
  have Lm2 := hide ((block_setCell_other HNE.out 5 (.int .i64 xv)).trans Lm1.out)
  generalize wm1.setCell ⟨p, 5, none⟩ (.int .i64 xv) = wm2 at *
  have Nm3 := hide (show (wm2.setCell ⟨p, 6, none⟩ (.int .i64 xr)).heap[p]? = some (.cells #[.int .i64 keep, .int .i64 next, .bool true, .int .i64 (xc + 1), .int .i64 xs, .int .i64 xv, .int .i64 xr, .int .i64 xi, .int .i64 xo, v] 56 (0, 0)) from block_setCell Nm2.out 6 (.int .i64 xr))
  have Km3 := hide (Km2.out.set Nm2.out (List.mem_singleton.2 rfl) 6 (.int .i64 xr))
  have Lm3 := hide ((block_setCell_other HNE.out 6 (.int .i64 xr)).trans Lm2.out)
  generalize wm2.setCell ⟨p, 6, none⟩ (.int .i64 xr) = wm3 at *
  have Nm4 := hide (show (wm3.setCell ⟨p, 7, none⟩ (.int .i64 xi)).heap[p]? = some (.cells #[.int .i64 keep, .int .i64 next, .bool true, .int .i64 (xc + 1), .int .i64 xs, .int .i64 xv, .int .i64 xr, .int .i64 xi, .int .i64 xo, v] 56 (0, 0)) from block_setCell Nm3.out 7 (.int .i64 xi))
  have Km4 := hide (Km3.out.set Nm3.out (List.mem_singleton.2 rfl) 7 (.int .i64 xi))
  have Lm4 := hide ((block_setCell_other HNE.out 7 (.int .i64 xi)).trans Lm3.out)
  generalize wm3.setCell ⟨p, 7, none⟩ (.int .i64 xi) = wm4 at *
  have Nm5 := hide (show (wm4.setCell ⟨p, 8, none⟩ (.int .i64 x)).heap[p]? = some (.cells #[.int .i64 keep, .int .i64 next, .bool true, .int .i64 (xc + 1), .int .i64 xs, .int .i64 xv, .int .i64 xr, .int .i64 xi, .int .i64 x, v] 56 (0, 0)) from block_setCell Nm4.out 8 (.int .i64 x))
  have Km5 := hide (Km4.out.set Nm4.out (List.mem_singleton.2 rfl) 8 (.int .i64 x))
  have Lm5 := hide ((block_setCell_other HNE.out 8 (.int .i64 x)).trans Lm4.out)
  generalize wm4.setCell ⟨p, 8, none⟩ (.int .i64 x) = wm5 at *
  (try go_wp2_with fail)
  refine hK.out _ _ (⟨cell_of_block Lm5.out 0, cell_of_block Lm5.out 1, cell_of_block Lm5.out 2, cell_of_block Lm5.out 3, cell_of_block Lm5.out 4⟩) (fun hHeld => ?_)
  clear hK K hOld
  try simp only [Act.put, List.setIfInBounds_toArray, List.set_cons_zero, List.set_cons_succ]
  refine wpAnyH_done (by kernel_rfl) ?_ _
  clear hHeld
  go_wp2_with fail
  go_ret
  exact ⟨rfl, Nm5.out, Km5.out⟩

set_option maxRecDepth 100000 in
set_option maxHeartbeats 1000000 in
theorem shadd_6 (p : Nat) (keep next xc xs xv xr xi xo : Int) (v : Value) (am : Int) (h0 : 0 ≤ am) (hc : 0 ≤ xc ∧ xc < 4294967295) (w : World) (h : w.heap[p]? = some (.cells #[.int .i64 keep, .int .i64 next, .bool true, .int .i64 xc, .int .i64 xs, .int .i64 xv, .int .i64 xr, .int .i64 xi, .int .i64 xo, v] 56 (0, 0))) :
    Calls Tryd.prog 8 #[.pointer (some ⟨p, 0, none⟩), .int .u8 6, .int .i64 am] w fun e w' => e = .returned (.int .i64 0) ∧ w'.heap[p]? = some (.cells #[.int .i64 keep, .int .i64 next, .bool true, .int .i64 (xc + 1), .int .i64 xs, .int .i64 xv, .int .i64 xr, .int .i64 xi, .int .i64 xo, v] 56 (0, 0)) ∧ SKO [p] w w' := by
  have HSU := hide (fun W => sums_any xc xs xv xr xi xo W)
  have HTO := hide (fun W => totals_any (xc + 1) xs xv xr xi xo W)
  have hwc : IntKind.i64.wrap (xc + 1) = xc + 1 := by rw [IntKind.wrap_i64]; omega
  have hc2 : ¬ xc = 4294967295 := by omega
  have ham0 : ¬ am < 0 := by omega
  have N9 := hide h
  obtain ⟨⟨c0, c1, c2, c3, c4, c5, c6, c7, c8, c9⟩, ⟨f0, f1, f2, f3, f4, f5, f6, f7, f8, f9⟩⟩ := sh_facts h
  clear h hc
  unfold totA at HSU
  go_enter Tryd.func8, Tryd.ntmps8
  go_wp2_with fail
  refine (HSU.out _).mono ?_
  rintro e w1 ⟨rfl, hb⟩
  have N8 := hide ((hb.block _ (heap_lt N9.out)).trans N9.out)
  have KK8 := hide ((SKO.refl [p] w).below hb)
  clear hb
  clear c0 c1 c2 c3 c4 c5 c6 c7 c8 c9 f0 f1 f2 f3 f4 f5 f6 f7 f8 f9
  obtain ⟨⟨c0, c1, c2, c3, c4, c5, c6, c7, c8, c9⟩, ⟨f0, f1, f2, f3, f4, f5, f6, f7, f8, f9⟩⟩ := sh_facts N8.out
  go_upto_region 16 with (fail)
  obtain ⟨ol, hol⟩ : ∃ ol, ol = Obj.cells #[.int .i64 xs, .int .i64 xv, .int .i64 xr, .int .i64 xi, .int .i64 xo] 59 := ⟨_, rfl⟩
  rw [← hol]
  have hal := (Below.refl w1.heap.size w1).alloc (Nat.le_refl _) ol
  have XL0 := hide (show (w1.alloc ol).drew.heap[w1.heap.size]? = _ from heap_new w1 ol)
  have N0 := hide (show (w1.alloc ol).drew.heap[p]? = _ from ((hal.block _ (heap_lt N8.out)).trans N8.out))
  have KK0 := hide (show SKO [p] w (w1.alloc ol).drew from (KK8.out.below hal).drew)
  have HNE := hide (show p ≠ w1.heap.size from by have := heap_lt N8.out; omega)
  clear hal
  clear c0 c1 c2 c3 c4 c5 c6 c7 c8 c9 f0 f1 f2 f3 f4 f5 f6 f7 f8 f9
  generalize w1.alloc ol = w5 at *
  generalize w1.heap.size = lb at *
  rw [hol] at XL0
  clear hol ol
  refine wp_region_held_drew (S := (fun W => W.cell? ⟨lb, 0, none⟩ = some (.int .i64 xs) ∧ W.cell? ⟨lb, 1, none⟩ = some (.int .i64 xv) ∧ W.cell? ⟨lb, 2, none⟩ = some (.int .i64 xr) ∧ W.cell? ⟨lb, 3, none⟩ = some (.int .i64 xi) ∧ W.cell? ⟨lb, 4, none⟩ = some (.int .i64 xo))) (by kernel_rfl) (⟨cell_of_block XL0.out 0, cell_of_block XL0.out 1, cell_of_block XL0.out 2, cell_of_block XL0.out 3, cell_of_block XL0.out 4⟩) (fun hHeld => ?_)
  generalize w5.drew = u0 at *
  have c3 := (sh_facts N0.out).1.2.2.2.1
  refine wpAnyH_take (i := 0) (oi := { dst := some 62, op := Op.move (Operand.tmp 0), type := 23, pos := "shift.go:109", after := #[], guard := none }) (v := ?_) rfl (by kernel_rfl) (by kernel_rfl) (by kernel_rfl) (fun _ _ _ h => h) (Or.inl ⟨by kernel_rfl, ?_⟩) hHeld ?_
  rotate_left
  · (intro w hSw; (try dsimp only at hSw); go_simp); try with_reducible rfl
  try simp only [Act.put, List.setIfInBounds_toArray, List.set_cons_zero, List.set_cons_succ]
  refine wpAnyH_take (i := 1) (oi := { dst := some 63, op := Op.load 59 (Operand.tmp 7), type := 59, pos := "shift.go:109", after := #[], guard := none }) (v := ?_) rfl (by kernel_rfl) (by kernel_rfl) (by kernel_rfl) (fun _ _ _ h => h) (Or.inl ⟨by kernel_rfl, ?_⟩) hHeld ?_
  rotate_left
  · (intro w hSw; (try dsimp only at hSw); go_simp); try with_reducible rfl
  try simp only [Act.put, List.setIfInBounds_toArray, List.set_cons_zero, List.set_cons_succ]
  refine wpAnyH_take (i := 2) (oi := { dst := some 64, op := Op.move (Operand.tmp 0), type := 23, pos := "shift.go:109", after := #[], guard := none }) (v := ?_) rfl (by kernel_rfl) (by kernel_rfl) (by kernel_rfl) (fun _ _ _ h => h) (Or.inl ⟨by kernel_rfl, ?_⟩) hHeld ?_
  rotate_left
  · (intro w hSw; (try dsimp only at hSw); go_simp); try with_reducible rfl
  try simp only [Act.put, List.setIfInBounds_toArray, List.set_cons_zero, List.set_cons_succ]
  refine wpAnyH_take (i := 3) (oi := { dst := some 65, op := Op.nilCheck (Operand.tmp 64), type := 0, pos := "shift.go:109", after := #[{ on := 2, ground := Ground.data }], guard := none }) (v := ?_) rfl (by kernel_rfl) (by kernel_rfl) (by kernel_rfl) (fun _ _ _ h => h) (Or.inl ⟨by kernel_rfl, ?_⟩) hHeld ?_
  rotate_left
  · (intro w hSw; (try dsimp only at hSw); go_simp); try with_reducible rfl
  try simp only [Act.put, List.setIfInBounds_toArray, List.set_cons_zero, List.set_cons_succ]
  refine wpAnyH_take (i := 4) (oi := { dst := some 66, op := Op.fieldAddr 56 (Operand.tmp 65) 3, type := 0, pos := "shift.go:109", after := #[{ on := 3, ground := Ground.data }], guard := none }) (v := ?_) rfl (by kernel_rfl) (by kernel_rfl) (by kernel_rfl) (fun _ _ _ h => h) (Or.inl ⟨by kernel_rfl, ?_⟩) hHeld ?_
  rotate_left
  · (intro w hSw; (try dsimp only at hSw); go_simp); try with_reducible rfl
  try simp only [Act.put, List.setIfInBounds_toArray, List.set_cons_zero, List.set_cons_succ]
  refine wpAnyH_take (i := 5) (oi := { dst := some 67, op := Op.fieldAddr 34 (Operand.tmp 66) 0, type := 0, pos := "shift.go:109", after := #[{ on := 4, ground := Ground.data }], guard := none }) (v := ?_) rfl (by kernel_rfl) (by kernel_rfl) (by kernel_rfl) (fun _ _ _ h => h) (Or.inl ⟨by kernel_rfl, ?_⟩) hHeld ?_
  rotate_left
  · (intro w hSw; (try dsimp only at hSw); go_simp); try with_reducible rfl
  try simp only [Act.put, List.setIfInBounds_toArray, List.set_cons_zero, List.set_cons_succ]
  refine wpAnyH_ready (rs := [6]) (by kernel_rfl) (by simp) (AllReadyH.cons (o := { dst := some 68, op := Op.load 3 (Operand.tmp 67), type := 3, pos := "shift.go:109", after := #[{ on := 5, ground := Ground.data }], guard := none }) rfl (fun K hK => ?_) AllReadyH.nil)
  have hOld := hide hHeld
  clear hHeld
  go_simp
  clear c3
  (try go_wp2_with fail)
  refine hK.out _ _ (⟨cell_of_block XL0.out 0, cell_of_block XL0.out 1, cell_of_block XL0.out 2, cell_of_block XL0.out 3, cell_of_block XL0.out 4⟩) (fun hHeld => ?_)
  clear hK K hOld
  try simp only [Act.put, List.setIfInBounds_toArray, List.set_cons_zero, List.set_cons_succ]
  refine wpAnyH_take (i := 7) (oi := { dst := some 69, op := Op.binOp BinOp.add 3 (Operand.tmp 68) (Operand.const (Value.int IntKind.i64 1)) 3, type := 3, pos := "shift.go:109", after := #[{ on := 6, ground := Ground.data }], guard := none }) (v := ?_) rfl (by kernel_rfl) (by kernel_rfl) (by kernel_rfl) (fun _ _ _ h => h) (Or.inl ⟨by kernel_rfl, ?_⟩) hHeld ?_
  rotate_left
  · (intro w hSw; (try dsimp only at hSw); go_simp); try with_reducible rfl
  try simp only [Act.put, List.setIfInBounds_toArray, List.set_cons_zero, List.set_cons_succ]
  refine wpAnyH_ready (rs := [8]) (by kernel_rfl) (by simp) (AllReadyH.cons (o := { dst := some 70, op := Op.call { callee := Callee.value (Operand.func 19), args := #[Operand.tmp 63, Operand.tmp 69], argTypes := #[59, 3] }, type := 34, pos := "shift.go:109", after := #[{ on := 1, ground := Ground.data }, { on := 7, ground := Ground.data }], guard := none }) rfl (fun K hK => ?_) AllReadyH.nil)
  have hOld := hide hHeld
  clear hHeld
  go_simp
  refine (HTO.out _).mono ?_
  rintro e u1 ⟨rfl, hb⟩
  have XL1 := hide ((hb.block _ (heap_lt XL0.out)).trans XL0.out)
  have N1 := hide ((hb.block _ (heap_lt N0.out)).trans N0.out)
  have KK1 := hide (KK0.out.below hb)
  clear hb
  obtain ⟨⟨c0, c1, c2, c3, c4, c5, c6, c7, c8, c9⟩, ⟨f0, f1, f2, f3, f4, f5, f6, f7, f8, f9⟩⟩ := sh_facts N1.out
  unfold totA
  (try go_wp2_with fail)
  refine hK.out _ _ (⟨cell_of_block XL1.out 0, cell_of_block XL1.out 1, cell_of_block XL1.out 2, cell_of_block XL1.out 3, cell_of_block XL1.out 4⟩) (fun hHeld => ?_)
  clear hK K hOld
  try simp only [Act.put, List.setIfInBounds_toArray, List.set_cons_zero, List.set_cons_succ]
  refine wpAnyH_take (i := 9) (oi := { dst := some 71, op := Op.nilCheck (Operand.tmp 62), type := 0, pos := "shift.go:109", after := #[{ on := 0, ground := Ground.data }, { on := 0, ground := Ground.phase }, { on := 1, ground := Ground.phase }, { on := 2, ground := Ground.phase }, { on := 3, ground := Ground.phase }, { on := 4, ground := Ground.phase }, { on := 5, ground := Ground.phase }, { on := 6, ground := Ground.phase }, { on := 7, ground := Ground.phase }, { on := 8, ground := Ground.phase }], guard := none }) (v := ?_) rfl (by kernel_rfl) (by kernel_rfl) (by kernel_rfl) (fun _ _ _ h => h) (Or.inl ⟨by kernel_rfl, ?_⟩) hHeld ?_
  rotate_left
  · (intro w hSw; (try dsimp only at hSw); go_simp); try with_reducible rfl
  try simp only [Act.put, List.setIfInBounds_toArray, List.set_cons_zero, List.set_cons_succ]
  refine wpAnyH_take (i := 10) (oi := { dst := some 72, op := Op.fieldAddr 56 (Operand.tmp 71) 3, type := 0, pos := "shift.go:109", after := #[{ on := 9, ground := Ground.data }, { on := 0, ground := Ground.phase }, { on := 1, ground := Ground.phase }, { on := 2, ground := Ground.phase }, { on := 3, ground := Ground.phase }, { on := 4, ground := Ground.phase }, { on := 5, ground := Ground.phase }, { on := 6, ground := Ground.phase }, { on := 7, ground := Ground.phase }, { on := 8, ground := Ground.phase }], guard := none }) (v := ?_) rfl (by kernel_rfl) (by kernel_rfl) (by kernel_rfl) (fun _ _ _ h => h) (Or.inl ⟨by kernel_rfl, ?_⟩) hHeld ?_
  rotate_left
  · (intro w hSw; (try dsimp only at hSw); go_simp); try with_reducible rfl
  try simp only [Act.put, List.setIfInBounds_toArray, List.set_cons_zero, List.set_cons_succ]
  refine wpAnyH_ready (rs := [11]) (by kernel_rfl) (by simp) (AllReadyH.cons (o := { dst := none, op := Op.store 34 (Operand.tmp 72) (Operand.tmp 70), type := 0, pos := "shift.go:109", after := #[{ on := 10, ground := Ground.data }, { on := 8, ground := Ground.data }, { on := 8, ground := Ground.chain }, { on := 0, ground := Ground.phase }, { on := 1, ground := Ground.phase }, { on := 2, ground := Ground.phase }, { on := 3, ground := Ground.phase }, { on := 4, ground := Ground.phase }, { on := 5, ground := Ground.phase }, { on := 6, ground := Ground.phase }, { on := 7, ground := Ground.phase }, { on := 8, ground := Ground.phase }], guard := none }) rfl (fun K hK => ?_) AllReadyH.nil)
  have hOld := hide hHeld
  clear hHeld
  go_simp
  clear c0 c1 c2 c3 c4 c5 c6 c7 c8 c9 f0 f1 f2 f3 f4 f5 f6 f7 f8 f9
  have Nm0 := hide (show (u1.setCell ⟨p, 3, none⟩ (.int .i64 (xc + 1))).heap[p]? = some (.cells #[.int .i64 keep, .int .i64 next, .bool true, .int .i64 (xc + 1), .int .i64 xs, .int .i64 xv, .int .i64 xr, .int .i64 xi, .int .i64 xo, v] 56 (0, 0)) from block_setCell N1.out 3 (.int .i64 (xc + 1)))
  have Km0 := hide (KK1.out.set N1.out (List.mem_singleton.2 rfl) 3 (.int .i64 (xc + 1)))
  have Lm0 := hide ((block_setCell_other HNE.out 3 (.int .i64 (xc + 1))).trans XL1.out)
  generalize u1.setCell ⟨p, 3, none⟩ (.int .i64 (xc + 1)) = wm0 at *
  have Nm1 := hide (show (wm0.setCell ⟨p, 4, none⟩ (.int .i64 xs)).heap[p]? = some (.cells #[.int .i64 keep, .int .i64 next, .bool true, .int .i64 (xc + 1), .int .i64 xs, .int .i64 xv, .int .i64 xr, .int .i64 xi, .int .i64 xo, v] 56 (0, 0)) from block_setCell Nm0.out 4 (.int .i64 xs))
  have Km1 := hide (Km0.out.set Nm0.out (List.mem_singleton.2 rfl) 4 (.int .i64 xs))
  have Lm1 := hide ((block_setCell_other HNE.out 4 (.int .i64 xs)).trans Lm0.out)
  generalize wm0.setCell ⟨p, 4, none⟩ (.int .i64 xs) = wm1 at *
  have Nm2 := hide (show (wm1.setCell ⟨p, 5, none⟩ (.int .i64 xv)).heap[p]? = some (.cells #[.int .i64 keep, .int .i64 next, .bool true, .int .i64 (xc + 1), .int .i64 xs, .int .i64 xv, .int .i64 xr, .int .i64 xi, .int .i64 xo, v] 56 (0, 0)) from block_setCell Nm1.out 5 (.int .i64 xv))
  have Km2 := hide (Km1.out.set Nm1.out (List.mem_singleton.2 rfl) 5 (.int .i64 xv))
  have Lm2 := hide ((block_setCell_other HNE.out 5 (.int .i64 xv)).trans Lm1.out)
  generalize wm1.setCell ⟨p, 5, none⟩ (.int .i64 xv) = wm2 at *
  have Nm3 := hide (show (wm2.setCell ⟨p, 6, none⟩ (.int .i64 xr)).heap[p]? = some (.cells #[.int .i64 keep, .int .i64 next, .bool true, .int .i64 (xc + 1), .int .i64 xs, .int .i64 xv, .int .i64 xr, .int .i64 xi, .int .i64 xo, v] 56 (0, 0)) from block_setCell Nm2.out 6 (.int .i64 xr))
  have Km3 := hide (Km2.out.set Nm2.out (List.mem_singleton.2 rfl) 6 (.int .i64 xr))
  have Lm3 := hide ((block_setCell_other HNE.out 6 (.int .i64 xr)).trans Lm2.out)
  generalize wm2.setCell ⟨p, 6, none⟩ (.int .i64 xr) = wm3 at *
  have Nm4 := hide (show (wm3.setCell ⟨p, 7, none⟩ (.int .i64 xi)).heap[p]? = some (.cells #[.int .i64 keep, .int .i64 next, .bool true, .int .i64 (xc + 1), .int .i64 xs, .int .i64 xv, .int .i64 xr, .int .i64 xi, .int .i64 xo, v] 56 (0, 0)) from block_setCell Nm3.out 7 (.int .i64 xi))
  have Km4 := hide (Km3.out.set Nm3.out (List.mem_singleton.2 rfl) 7 (.int .i64 xi))
  have Lm4 := hide ((block_setCell_other HNE.out 7 (.int .i64 xi)).trans Lm3.out)
  generalize wm3.setCell ⟨p, 7, none⟩ (.int .i64 xi) = wm4 at *
  have Nm5 := hide (show (wm4.setCell ⟨p, 8, none⟩ (.int .i64 xo)).heap[p]? = some (.cells #[.int .i64 keep, .int .i64 next, .bool true, .int .i64 (xc + 1), .int .i64 xs, .int .i64 xv, .int .i64 xr, .int .i64 xi, .int .i64 xo, v] 56 (0, 0)) from block_setCell Nm4.out 8 (.int .i64 xo))
  have Km5 := hide (Km4.out.set Nm4.out (List.mem_singleton.2 rfl) 8 (.int .i64 xo))
  have Lm5 := hide ((block_setCell_other HNE.out 8 (.int .i64 xo)).trans Lm4.out)
  generalize wm4.setCell ⟨p, 8, none⟩ (.int .i64 xo) = wm5 at *
  (try go_wp2_with fail)
  refine hK.out _ _ (⟨cell_of_block Lm5.out 0, cell_of_block Lm5.out 1, cell_of_block Lm5.out 2, cell_of_block Lm5.out 3, cell_of_block Lm5.out 4⟩) (fun hHeld => ?_)
  clear hK K hOld
  try simp only [Act.put, List.setIfInBounds_toArray, List.set_cons_zero, List.set_cons_succ]
  refine wpAnyH_done (by kernel_rfl) ?_ _
  clear hHeld
  go_wp2_with fail
  go_ret
  exact ⟨rfl, Nm5.out, Km5.out⟩
set_option maxRecDepth 100000 in
theorem shover_1 (p : Nat) (keep next xc xs xv xr xi xo : Int) (v : Value) (am : Int) (h0 : 0 ≤ am) (hc : 0 ≤ xc ∧ xc < 4294967295) (hs : inR xs) (ham : inR am) (hx : ¬ inR (xs + am)) (w : World) (h : w.heap[p]? = some (.cells #[.int .i64 keep, .int .i64 next, .bool true, .int .i64 xc, .int .i64 xs, .int .i64 xv, .int .i64 xr, .int .i64 xi, .int .i64 xo, v] 56 (0, 0))) :
    Calls Tryd.prog 8 #[.pointer (some ⟨p, 0, none⟩), .int .u8 1, .int .i64 am] w fun e w' => e = .returned (.int .i64 6) ∧ Below w.heap.size w w' := by
  have HSU := hide (fun W => sums_any xc xs xv xr xi xo W)
  have HAD := hide (fun W => cadd_any xs am hs ham W)
  rw [(sum_out hx).1, (sum_out hx).2] at HAD
  clear hx hs ham
  have hc2 : ¬ xc = 4294967295 := by omega
  have ham0 : ¬ am < 0 := by omega
  obtain ⟨⟨c0, c1, c2, c3, c4, c5, c6, c7, c8, c9⟩, ⟨f0, f1, f2, f3, f4, f5, f6, f7, f8, f9⟩⟩ := sh_facts h
  clear h hc
  unfold totA at HSU
  go_enter Tryd.func8, Tryd.ntmps8
  go_wp2_with fail
  refine (HSU.out _).mono ?_
  rintro e w1 ⟨rfl, hb⟩
  have HB := hide hb
  clear hb
  clear c0 c1 c2 c3 c4 c5 c6 c7 c8 c9 f0 f1 f2 f3 f4 f5 f6 f7 f8 f9
  go_wp2_with fail
  refine (HAD.out _).mono ?_
  rintro e w2 ⟨rfl, rfl⟩
  go_wp2_with fail
  go_ret
  exact ⟨rfl, HB.out.alloc HB.out.size _⟩

set_option maxRecDepth 100000 in
theorem shover_2 (p : Nat) (keep next xc xs xv xr xi xo : Int) (v : Value) (am : Int) (h0 : 0 ≤ am) (hc : 0 ≤ xc ∧ xc < 4294967295) (hs : inR xv) (ham : inR am) (hx : ¬ inR (xv + am)) (w : World) (h : w.heap[p]? = some (.cells #[.int .i64 keep, .int .i64 next, .bool true, .int .i64 xc, .int .i64 xs, .int .i64 xv, .int .i64 xr, .int .i64 xi, .int .i64 xo, v] 56 (0, 0))) :
    Calls Tryd.prog 8 #[.pointer (some ⟨p, 0, none⟩), .int .u8 2, .int .i64 am] w fun e w' => e = .returned (.int .i64 6) ∧ Below w.heap.size w w' := by
  have HSU := hide (fun W => sums_any xc xs xv xr xi xo W)
  have HAD := hide (fun W => cadd_any xv am hs ham W)
  rw [(sum_out hx).1, (sum_out hx).2] at HAD
  clear hx hs ham
  have hc2 : ¬ xc = 4294967295 := by omega
  have ham0 : ¬ am < 0 := by omega
  obtain ⟨⟨c0, c1, c2, c3, c4, c5, c6, c7, c8, c9⟩, ⟨f0, f1, f2, f3, f4, f5, f6, f7, f8, f9⟩⟩ := sh_facts h
  clear h hc
  unfold totA at HSU
  go_enter Tryd.func8, Tryd.ntmps8
  go_wp2_with fail
  refine (HSU.out _).mono ?_
  rintro e w1 ⟨rfl, hb⟩
  have HB := hide hb
  clear hb
  clear c0 c1 c2 c3 c4 c5 c6 c7 c8 c9 f0 f1 f2 f3 f4 f5 f6 f7 f8 f9
  go_wp2_with fail
  refine (HAD.out _).mono ?_
  rintro e w2 ⟨rfl, rfl⟩
  go_wp2_with fail
  go_ret
  exact ⟨rfl, HB.out.alloc HB.out.size _⟩

set_option maxRecDepth 100000 in
theorem shover_3 (p : Nat) (keep next xc xs xv xr xi xo : Int) (v : Value) (am : Int) (h0 : 0 ≤ am) (hc : 0 ≤ xc ∧ xc < 4294967295) (hs : inR xr) (ham : inR am) (hx : ¬ inR (xr + am)) (w : World) (h : w.heap[p]? = some (.cells #[.int .i64 keep, .int .i64 next, .bool true, .int .i64 xc, .int .i64 xs, .int .i64 xv, .int .i64 xr, .int .i64 xi, .int .i64 xo, v] 56 (0, 0))) :
    Calls Tryd.prog 8 #[.pointer (some ⟨p, 0, none⟩), .int .u8 3, .int .i64 am] w fun e w' => e = .returned (.int .i64 6) ∧ Below w.heap.size w w' := by
  have HSU := hide (fun W => sums_any xc xs xv xr xi xo W)
  have HAD := hide (fun W => cadd_any xr am hs ham W)
  rw [(sum_out hx).1, (sum_out hx).2] at HAD
  clear hx hs ham
  have hc2 : ¬ xc = 4294967295 := by omega
  have ham0 : ¬ am < 0 := by omega
  obtain ⟨⟨c0, c1, c2, c3, c4, c5, c6, c7, c8, c9⟩, ⟨f0, f1, f2, f3, f4, f5, f6, f7, f8, f9⟩⟩ := sh_facts h
  clear h hc
  unfold totA at HSU
  go_enter Tryd.func8, Tryd.ntmps8
  go_wp2_with fail
  refine (HSU.out _).mono ?_
  rintro e w1 ⟨rfl, hb⟩
  have HB := hide hb
  clear hb
  clear c0 c1 c2 c3 c4 c5 c6 c7 c8 c9 f0 f1 f2 f3 f4 f5 f6 f7 f8 f9
  go_wp2_with fail
  refine (HAD.out _).mono ?_
  rintro e w2 ⟨rfl, rfl⟩
  go_wp2_with fail
  go_ret
  exact ⟨rfl, HB.out.alloc HB.out.size _⟩

set_option maxRecDepth 100000 in
theorem shover_4 (p : Nat) (keep next xc xs xv xr xi xo : Int) (v : Value) (am : Int) (h0 : 0 ≤ am) (hc : 0 ≤ xc ∧ xc < 4294967295) (hs : inR xi) (ham : inR am) (hx : ¬ inR (xi + am)) (w : World) (h : w.heap[p]? = some (.cells #[.int .i64 keep, .int .i64 next, .bool true, .int .i64 xc, .int .i64 xs, .int .i64 xv, .int .i64 xr, .int .i64 xi, .int .i64 xo, v] 56 (0, 0))) :
    Calls Tryd.prog 8 #[.pointer (some ⟨p, 0, none⟩), .int .u8 4, .int .i64 am] w fun e w' => e = .returned (.int .i64 6) ∧ Below w.heap.size w w' := by
  have HSU := hide (fun W => sums_any xc xs xv xr xi xo W)
  have HAD := hide (fun W => cadd_any xi am hs ham W)
  rw [(sum_out hx).1, (sum_out hx).2] at HAD
  clear hx hs ham
  have hc2 : ¬ xc = 4294967295 := by omega
  have ham0 : ¬ am < 0 := by omega
  obtain ⟨⟨c0, c1, c2, c3, c4, c5, c6, c7, c8, c9⟩, ⟨f0, f1, f2, f3, f4, f5, f6, f7, f8, f9⟩⟩ := sh_facts h
  clear h hc
  unfold totA at HSU
  go_enter Tryd.func8, Tryd.ntmps8
  go_wp2_with fail
  refine (HSU.out _).mono ?_
  rintro e w1 ⟨rfl, hb⟩
  have HB := hide hb
  clear hb
  clear c0 c1 c2 c3 c4 c5 c6 c7 c8 c9 f0 f1 f2 f3 f4 f5 f6 f7 f8 f9
  go_wp2_with fail
  refine (HAD.out _).mono ?_
  rintro e w2 ⟨rfl, rfl⟩
  go_wp2_with fail
  go_ret
  exact ⟨rfl, HB.out.alloc HB.out.size _⟩

set_option maxRecDepth 100000 in
theorem shover_5 (p : Nat) (keep next xc xs xv xr xi xo : Int) (v : Value) (am : Int) (h0 : 0 ≤ am) (hc : 0 ≤ xc ∧ xc < 4294967295) (hs : inR xo) (ham : inR am) (hx : ¬ inR (xo + am)) (w : World) (h : w.heap[p]? = some (.cells #[.int .i64 keep, .int .i64 next, .bool true, .int .i64 xc, .int .i64 xs, .int .i64 xv, .int .i64 xr, .int .i64 xi, .int .i64 xo, v] 56 (0, 0))) :
    Calls Tryd.prog 8 #[.pointer (some ⟨p, 0, none⟩), .int .u8 5, .int .i64 am] w fun e w' => e = .returned (.int .i64 6) ∧ Below w.heap.size w w' := by
  have HSU := hide (fun W => sums_any xc xs xv xr xi xo W)
  have HAD := hide (fun W => cadd_any xo am hs ham W)
  rw [(sum_out hx).1, (sum_out hx).2] at HAD
  clear hx hs ham
  have hc2 : ¬ xc = 4294967295 := by omega
  have ham0 : ¬ am < 0 := by omega
  obtain ⟨⟨c0, c1, c2, c3, c4, c5, c6, c7, c8, c9⟩, ⟨f0, f1, f2, f3, f4, f5, f6, f7, f8, f9⟩⟩ := sh_facts h
  clear h hc
  unfold totA at HSU
  go_enter Tryd.func8, Tryd.ntmps8
  go_wp2_with fail
  refine (HSU.out _).mono ?_
  rintro e w1 ⟨rfl, hb⟩
  have HB := hide hb
  clear hb
  clear c0 c1 c2 c3 c4 c5 c6 c7 c8 c9 f0 f1 f2 f3 f4 f5 f6 f7 f8 f9
  go_wp2_with fail
  refine (HAD.out _).mono ?_
  rintro e w2 ⟨rfl, rfl⟩
  go_wp2_with fail
  go_ret
  exact ⟨rfl, HB.out.alloc HB.out.size _⟩

set_option maxRecDepth 100000 in
set_option maxHeartbeats 1000000 in
theorem shadd_any (k am : Int) (hk : 0 ≤ k ∧ k ≤ 255) (ham : inR am) (B p : Nat) (M : ShM) (v : Value) (w : World) (h : ShIs w B p M v) :
    Calls Tryd.prog 8 #[.pointer (some ⟨p, 0, none⟩), .int .u8 k, .int .i64 am] w (SAddIs B p M k am v w) := by
  obtain ⟨keep, next, op, ⟨xc, xs, xv, xr, xi, xo⟩, L⟩ := M
  have HH := hide h
  have HD := hide (show w.heap[p]? = some (.cells #[.int .i64 keep, .int .i64 next, .bool op, .int .i64 xc, .int .i64 xs, .int .i64 xv, .int .i64 xr, .int .i64 xi, .int .i64 xo, v] 56 (0, 0)) from h.head)
  have hn : TotOk ⟨xc, xs, xv, xr, xi, xo⟩ := h.ok.now
  clear h
  by_cases h1 : k < 1 ∨ 6 < k ∨ am < 0
  · have HE := hide (show shAddE ⟨keep, next, op, ⟨xc, xs, xv, xr, xi, xo⟩, L⟩ k am = 2 from by unfold shAddE; rw [if_pos h1])
    clear hn
    go_enter Tryd.func8, Tryd.ntmps8
    by_cases k1 : k < 1
    · clear h1
      go_wp2_with fail
      go_ret
      exact shadd_no HH.out HE.out (by decide) (SKO.refl _ _)
    by_cases k2 : 6 < k
    · clear h1
      go_wp2_with fail
      go_ret
      exact shadd_no HH.out HE.out (by decide) (SKO.refl _ _)
    · have k3 : am < 0 := by omega
      clear h1
      go_wp2_with fail
      go_ret
      exact shadd_no HH.out HE.out (by decide) (SKO.refl _ _)
  · have hE1 : shAddE ⟨keep, next, op, ⟨xc, xs, xv, xr, xi, xo⟩, L⟩ k am = if op = false then 20 else if xc = 4294967295 then 6 else if k ≤ 5 ∧ 9223372036854775807 < shSum ⟨xc, xs, xv, xr, xi, xo⟩ k + am then 6 else 0 := by unfold shAddE; rw [if_neg h1]
    have k1 : ¬ k < 1 := by omega
    have k2 : ¬ 6 < k := by omega
    have k3 : ¬ am < 0 := by omega
    clear h1
    cases op with
    | false =>
      have HE := hide (hE1.trans (if_pos rfl))
      clear hn hE1
      obtain ⟨⟨c0, c1, c2, c3, c4, c5, c6, c7, c8, c9⟩, ⟨f0, f1, f2, f3, f4, f5, f6, f7, f8, f9⟩⟩ := sh_facts HD.out
      go_enter Tryd.func8, Tryd.ntmps8
      go_wp2_with fail
      go_ret
      exact shadd_no HH.out HE.out (by decide) (SKO.refl _ _)
    | true =>
      rw [if_neg (by decide)] at hE1
      by_cases hc : xc = 4294967295
      · have HE := hide (hE1.trans (if_pos hc))
        subst hc
        clear hn hE1
        obtain ⟨⟨c0, c1, c2, c3, c4, c5, c6, c7, c8, c9⟩, ⟨f0, f1, f2, f3, f4, f5, f6, f7, f8, f9⟩⟩ := sh_facts HD.out
        go_enter Tryd.func8, Tryd.ntmps8
        go_wp2_with fail
        go_ret
        exact shadd_no HH.out HE.out (by decide) (SKO.refl _ _)
      rw [if_neg hc] at hE1
      have hc : 0 ≤ xc ∧ xc < 4294967295 := by have h5 : 0 ≤ xc ∧ xc ≤ 4294967295 := hn.c; omega
      have h0 : 0 ≤ am := by omega
      by_cases hov : k ≤ 5 ∧ 9223372036854775807 < shSum ⟨xc, xs, xv, xr, xi, xo⟩ k + am
      · have HE := hide (hE1.trans (if_pos hov))
        have hkk : k = 1 ∨ k = 2 ∨ k = 3 ∨ k = 4 ∨ k = 5 := by omega
        clear hE1
        rcases hkk with rfl | rfl | rfl | rfl | rfl
        · have hxx : ¬ inR (xs + am) := by have := hov.2; unfold shSum at this; simp at this; unfold inR; omega
          refine (shover_1 p keep next xc xs xv xr xi xo v am h0 hc (okR hn.s) ham hxx w HD.out).mono ?_
          rintro e w' ⟨rfl, hb⟩
          exact shadd_no (HH.out.below hb) HE.out (by decide) (SKO.of_below hb)
        · have hxx : ¬ inR (xv + am) := by have := hov.2; unfold shSum at this; simp at this; unfold inR; omega
          refine (shover_2 p keep next xc xs xv xr xi xo v am h0 hc (okR hn.v) ham hxx w HD.out).mono ?_
          rintro e w' ⟨rfl, hb⟩
          exact shadd_no (HH.out.below hb) HE.out (by decide) (SKO.of_below hb)
        · have hxx : ¬ inR (xr + am) := by have := hov.2; unfold shSum at this; simp at this; unfold inR; omega
          refine (shover_3 p keep next xc xs xv xr xi xo v am h0 hc (okR hn.r) ham hxx w HD.out).mono ?_
          rintro e w' ⟨rfl, hb⟩
          exact shadd_no (HH.out.below hb) HE.out (by decide) (SKO.of_below hb)
        · have hxx : ¬ inR (xi + am) := by have := hov.2; unfold shSum at this; simp at this; unfold inR; omega
          refine (shover_4 p keep next xc xs xv xr xi xo v am h0 hc (okR hn.i) ham hxx w HD.out).mono ?_
          rintro e w' ⟨rfl, hb⟩
          exact shadd_no (HH.out.below hb) HE.out (by decide) (SKO.of_below hb)
        · have hxx : ¬ inR (xo + am) := by have := hov.2; unfold shSum at this; simp at this; unfold inR; omega
          refine (shover_5 p keep next xc xs xv xr xi xo v am h0 hc (okR hn.o) ham hxx w HD.out).mono ?_
          rintro e w' ⟨rfl, hb⟩
          exact shadd_no (HH.out.below hb) HE.out (by decide) (SKO.of_below hb)
      have HE := hide (hE1.trans (if_neg hov))
      have hnv : k ≤ 5 → shSum ⟨xc, xs, xv, xr, xi, xo⟩ k + am ≤ 9223372036854775807 := fun h5 => by omega
      have hkk : k = 1 ∨ k = 2 ∨ k = 3 ∨ k = 4 ∨ k = 5 ∨ k = 6 := by omega
      have hsum : sumOk xs ∧ sumOk xv ∧ sumOk xr ∧ sumOk xi ∧ sumOk xo := ⟨hn.s, hn.v, hn.r, hn.i, hn.o⟩
      unfold sumOk at hsum
      clear hE1 hov
      rcases hkk with rfl | rfl | rfl | rfl | rfl | rfl
      · have hxx : inR (xs + am) := by have := hnv (by decide); unfold shSum at this; simp at this; unfold inR; omega
        refine (shadd_1 p keep next xc xs xv xr xi xo v am h0 hc _ (okR hn.s) ham hxx rfl w HD.out).mono ?_
        rintro e w' ⟨rfl, hh, hk⟩
        exact shadd_fin HH.out HE.out hh hk
      · have hxx : inR (xv + am) := by have := hnv (by decide); unfold shSum at this; simp at this; unfold inR; omega
        refine (shadd_2 p keep next xc xs xv xr xi xo v am h0 hc _ (okR hn.v) ham hxx rfl w HD.out).mono ?_
        rintro e w' ⟨rfl, hh, hk⟩
        exact shadd_fin HH.out HE.out hh hk
      · have hxx : inR (xr + am) := by have := hnv (by decide); unfold shSum at this; simp at this; unfold inR; omega
        refine (shadd_3 p keep next xc xs xv xr xi xo v am h0 hc _ (okR hn.r) ham hxx rfl w HD.out).mono ?_
        rintro e w' ⟨rfl, hh, hk⟩
        exact shadd_fin HH.out HE.out hh hk
      · have hxx : inR (xi + am) := by have := hnv (by decide); unfold shSum at this; simp at this; unfold inR; omega
        refine (shadd_4 p keep next xc xs xv xr xi xo v am h0 hc _ (okR hn.i) ham hxx rfl w HD.out).mono ?_
        rintro e w' ⟨rfl, hh, hk⟩
        exact shadd_fin HH.out HE.out hh hk
      · have hxx : inR (xo + am) := by have := hnv (by decide); unfold shSum at this; simp at this; unfold inR; omega
        refine (shadd_5 p keep next xc xs xv xr xi xo v am h0 hc _ (okR hn.o) ham hxx rfl w HD.out).mono ?_
        rintro e w' ⟨rfl, hh, hk⟩
        exact shadd_fin HH.out HE.out hh hk
      · refine (shadd_6 p keep next xc xs xv xr xi xo v am h0 hc w HD.out).mono ?_
        rintro e w' ⟨rfl, hh, hk⟩
        exact shadd_fin HH.out HE.out hh hk
end Go.Proofs.YtnnggchkdffpnaaDoor
