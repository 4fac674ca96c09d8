/-
  Layer 22: the chart of a few accounts in memory; New, Add, Get.
-/
import Derived.Test.YtjjldphbflbbdaaPost2
import Derived.StillTailTactics
--import Derived.Test.Zdbg
namespace Go.Proofs.Ytjjldphbflbbdaa
set_option linter.unusedSimpArgs false
set_option linter.unusedVariables false
open Go.RowKit Go.WideShapes Go.ChangeShapes Go.ChangeAt Go.Deep

theorem wf_of {a : Int} (h : inR a) : (Lit.int .i64 a).wf = true := by
  have h1 : IntKind.i64.wrap a = a := wrap_in h
  obtain ⟨h2, h3⟩ := h
  simp [Lit.wf, IntKind.min, IntKind.max, IntKind.signed, IntKind.bits]
  exact ⟨h2, h3⟩
theorem Keyed_int : Go.Maps.Keyed Try.prog 3 := Go.Maps.int_keyed Try.underlying3
theorem key_int {a : Int} (h : inR a) : keyOf Try.prog 3 (.int .i64 a) = some (.int .i64 a) := Go.Maps.keyOf_int_mk Try.underlying3 (wf_of h)
def accV (k : Int) : Value := .agg #[.int .i64 k, .int .u8 1, .string ⟨#[120]⟩]
def zeroA : Value := .agg #[.int .i64 0, .int .u8 0, .string ⟨#[]⟩]
/-- codes 1 to m -/
def ChF (m : Nat) (f : Lit → Option Value) : Prop := ∀ k : Int, inR k → f (.int .i64 k) = if 1 ≤ k ∧ k ≤ (m : Int) then some (accV k) else none
theorem chf_none : ChF 0 (fun _ => none) := fun k _ => by rw [if_neg (by omega)]
theorem chf_next {m : Nat} {f : Lit → Option Value} (h : ChF m f) (hm : m ≤ 100) : ChF (m + 1) (fun l => if l.sameKey (.int .i64 ((m : Int) + 1)) = true then some (accV ((m : Int) + 1)) else f l) := fun k hk => by
  show (if (Lit.int .i64 k).sameKey (.int .i64 ((m : Int) + 1)) = true then some (accV ((m : Int) + 1)) else f (.int .i64 k)) = _
  have hs : (Lit.int .i64 k).sameKey (.int .i64 ((m : Int) + 1)) = true ↔ k = (m : Int) + 1 := by
    simp [Lit.sameKey]
  by_cases e : k = (m : Int) + 1
  · rw [if_pos (hs.2 e), if_pos (by omega), e]
  · rw [if_neg (fun h' => e (hs.1 h')), h k hk]
    by_cases h1 : 1 ≤ k ∧ k ≤ (m : Int)
    · rw [if_pos h1, if_pos (by omega)]
    · rw [if_neg h1, if_neg (by omega)]
/-- a chart in memory -/
structure ChartAt (w : World) (p bm m : Nat) : Prop where
  head : w.heap[p]? = some (.cells #[.map (some bm)] 104 (0, 0))
  map : ∃ c f, MapIs w Try.prog 3 bm m c f ∧ ChF m f ∧ c ≤ m
theorem map_noCells {w : World} {P : Program} {k : TypeId} {b n c : Nat} {f : Lit → Option Value} (h : MapIs w P k b n c f) (d : Array Value) (t : TypeId) (fz : Nat × Nat) : w.heap[b]? ≠ some (.cells d t fz) := by
  obtain ⟨D, h1, h2⟩ := h
  intro he
  obtain ⟨es, nx, hh, -⟩ := h1
  simp_all
theorem ChartAt.below {w w' : World} {p bm m : Nat} (h : ChartAt w p bm m) (hb : Below w.heap.size w w') : ChartAt w' p bm m := by
  obtain ⟨c, f, h1, h2⟩ := h.map
  exact ⟨(hb.block _ (heap_lt h.head)).trans h.head, c, f, h1.below hb, h2⟩
theorem ChartAt.lt {w : World} {p bm m : Nat} (h : ChartAt w p bm m) : bm < w.heap.size ∧ p < w.heap.size := by
  obtain ⟨c, f, h1, h2⟩ := h.map
  exact ⟨h1.lt, heap_lt h.head⟩
theorem ChartAt.ne {w : World} {p bm m : Nat} (h : ChartAt w p bm m) : p ≠ bm := fun e => by
  obtain ⟨c, f, h1, h2⟩ := h.map
  exact map_noCells h1 _ _ _ (e ▸ h.head)
set_option maxRecDepth 100000 in
theorem chartNew (w : World) : Calls Try.prog 25 #[] w fun e w' => ∃ p bm, e = .returned (.pointer (some ⟨p, 0, none⟩)) ∧ ChartAt w' p bm 0 ∧ w.heap.size ≤ bm ∧ w.heap.size ≤ p ∧ Below w.heap.size w w' := by
  have hmm := @run_makeMap Try.prog
  go_enter Try.func25, Try.ntmps25
  go_wp2_with fail
  go_ret
  have M1 := MapIs.made w Try.prog 3
  have hb1 := (Below.refl w.heap.size w).alloc (Nat.le_refl _) (.map #[] 0)
  have hs : (w.alloc (.map #[] 0)).heap.size = w.heap.size + 1 := by simp
  have hb2 := (Below.refl (w.alloc (.map #[] 0)).heap.size (w.alloc (.map #[] 0))).alloc (Nat.le_refl _) (.cells #[.map (some w.heap.size)] 104)
  have X := heap_new (w.alloc (.map #[] 0)) (.cells #[.map (some w.heap.size)] 104)
  rw [hs] at X
  exact ⟨w.heap.size + 1, w.heap.size, rfl, ⟨X, _, _, M1.below hb2, chf_none, Nat.le_refl _⟩, Nat.le_refl _, by omega, hb1.trans (hb2.mono (by omega))⟩
theorem zero_acc (w : World) : (zeroValue 75).run Try.prog w = .ok zeroA w := by kernel_rfl
set_option maxRecDepth 100000 in
set_option maxHeartbeats 800000 in
theorem cget_any (p bm m : Nat) (k : Int) (hk : inR k) (w : World) (h : ChartAt w p bm m) :
    Calls Try.prog 30 #[.pointer (some ⟨p, 0, none⟩), .int .i64 k] w fun e w' => e = .returned (.tuple #[if 1 ≤ k ∧ k ≤ (m : Int) then accV k else zeroA, .bool (decide (1 ≤ k ∧ k ≤ (m : Int)))]) ∧ Below w.heap.size w w' := by
  obtain ⟨ob, hob⟩ : ∃ ob, ob = (Obj.cells #[.int .i64 0, .int .u8 0, .string ⟨#[]⟩] 75) := ⟨_, rfl⟩
  have hal := (Below.refl w.heap.size w).alloc (Nat.le_refl _) ob
  obtain ⟨c, f, hM, hF, -⟩ := (h.below hal).map
  have hlk := hM.look_ok Keyed_int Try.underlying102 (zero_acc _) (key_int hk) (by trivial)
  rw [hF k hk] at hlk
  have X := hide ((hal.block _ (heap_lt h.head)).trans h.head)
  have Z := hide (heap_new w ob)
  have HA := hide hal
  have hc := cell_of_block X.out 0
  have hsz : (w.alloc ob).heap.size = w.heap.size + 1 := by simp
  have hcc : ∀ v : Value, (v = accV k ∨ v = zeroA) → ∃ a b s, v = .agg #[.int .i64 a, .int .u8 b, .string s] := fun v hv => by
    rcases hv with rfl | rfl
    · exact ⟨_, _, _, rfl⟩
    · exact ⟨_, _, _, rfl⟩
  obtain ⟨a0, b0, s0, hv⟩ := hcc (if 1 ≤ k ∧ k ≤ (m : Int) then accV k else zeroA) (by split <;> simp)
  have hg : (if 1 ≤ k ∧ k ≤ (m : Int) then some (accV k) else none).getD zeroA = (if 1 ≤ k ∧ k ≤ (m : Int) then accV k else zeroA) := by split <;> rfl
  have hs : (if 1 ≤ k ∧ k ≤ (m : Int) then some (accV k) else none).isSome = decide (1 ≤ k ∧ k ≤ (m : Int)) := by split <;> simp [*]
  rw [hg, hs, hv] at hlk
  rw [hv]
  generalize decide (1 ≤ k ∧ k ≤ (m : Int)) = d at *
  clear hM hF h hal hg hs hv hcc
  go_enter Try.func30, Try.ntmps30
  rw [hob] at *
  go_wp2_with fail
  clear hob
  have hb1 := (Below.refl w.heap.size w).alloc (Nat.le_refl _) (.cells #[.int .i64 a0, .int .u8 b0, .string s0] 75)
  have hs1 : (w.alloc (.cells #[.int .i64 a0, .int .u8 b0, .string s0] 75)).heap.size = w.heap.size + 1 := by simp
  have z0 := heap_new w (.cells #[.int .i64 a0, .int .u8 b0, .string s0] 75)
  generalize w.alloc (.cells #[.int .i64 a0, .int .u8 b0, .string s0] 75) = w1 at *
  have hb2 := (Below.refl w1.heap.size w1).alloc (Nat.le_refl _) (.cells #[.int .i64 a0, .int .u8 b0, .string s0] 75)
  have y0 := (hb2.block _ (heap_lt z0)).trans z0
  refine bodyPost_ret (v := .tuple #[.agg #[.int .i64 a0, .int .u8 b0, .string s0], .bool d]) ?_ rfl ⟨rfl, hb1.trans (hb2.mono (by omega))⟩
  have z1 := cell_of_block y0 0
  have z2 := cell_of_block y0 1
  have z3 := cell_of_block y0 2
  simp [results, Try.results30, go_sem, z1, z2, z3]

theorem owns_beside {w w' : World} {B e m n q : Nat} {v : Value} {xs : List Value} (h : w.ownsRow B e m v n xs) (ho : Only q w w') (hm : ∀ d t fz, w.heap[q]? ≠ some (.cells d t fz)) : w'.ownsRow B e m v n xs := by
  refine ⟨h.1, ?_⟩
  rcases h.2 with h3 | ⟨g, cap', cur, hv, hb, hh, h4⟩
  · exact .inl h3
  · exact .inr ⟨g, cap', cur, hv, hb, (ho.block g (heap_lt hh) (fun e => hm _ _ _ (e ▸ hh))).trans hh, h4⟩
set_option maxRecDepth 100000 in
set_option maxHeartbeats 800000 in
theorem cadd_any (p bm m : Nat) (hm : m < 60) (w : World) (h : ChartAt w p bm m) :
    Calls Try.prog 26 #[.pointer (some ⟨p, 0, none⟩), .agg #[.int .i64 ((m : Int) + 1), .int .u8 1, .string ⟨#[120]⟩]] w fun e w' => e = .returned (.int .i64 0) ∧ ChartAt w' p bm (m + 1) ∧ Only bm w w' := by
  obtain ⟨ob, hob⟩ : ∃ ob, ob = (Obj.cells #[.int .i64 ((m : Int) + 1), .int .u8 1, .string ⟨#[120]⟩] 75) := ⟨_, rfl⟩
  have hal := (Below.refl w.heap.size w).alloc (Nat.le_refl _) ob
  have X1 := hide (show (w.alloc ob).heap[w.heap.size]? = some (.cells #[.int .i64 ((m : Int) + 1), .int .u8 1, .string ⟨#[120]⟩] 75 (0, 0)) by rw [heap_new, hob])
  have C1 := hide (h.below hal)
  have HO := hide (Only.of_below (q := bm) hal)
  have HLT := hide h.lt
  have HR := hide (fun W => right_x (m + 1) (by omega) W)
  rw [show ((m + 1 : Nat) : Int) = (m : Int) + 1 by omega] at HR
  clear h hal
  go_enter Try.func26, Try.ntmps26
  go_wp2_with fail
  rw [← hob]
  generalize w.alloc ob = w1 at *
  generalize w.heap.size = q at *
  clear hob ob
  refine (HR.out _).mono ?_
  rintro e w2 ⟨rfl, hb⟩
  have X2 := hide ((hb.block _ (heap_lt X1.out)).trans X1.out)
  have C2 := hide (C1.out.below hb)
  have O2 := hide (HO.out.trans (Only.of_below (q := bm) hb))
  clear hb X1 C1 HO HR
  have HLK := hide (show ∀ W, ChartAt W p bm m → (Instr.lookup 102 (.map (some bm)) (.int .i64 ((m : Int) + 1)) true).run Try.prog W = .ok (.tuple #[.agg #[.int .i64 0, .int .u8 0, .string ⟨#[]⟩], .bool false]) W from fun W hW => by
    obtain ⟨c, f, hM, hF, -⟩ := hW.map
    have hk : inR ((m : Int) + 1) := by unfold inR; omega
    have h1 := hM.look_ok Keyed_int Try.underlying102 (zero_acc W) (key_int hk) (by trivial)
    rw [hF _ hk, if_neg (by omega)] at h1
    exact h1)
  go_upto_region 5 with (fail)
  refine wp_region_held_drew (S := (fun W => ChartAt W p bm m ∧ Only bm w W ∧ W.heap[q]? = some (.cells #[.int .i64 ((m : Int) + 1), .int .u8 1, .string ⟨#[120]⟩] 75 (0, 0)))) (by kernel_rfl) (⟨C2.out.below ⟨rfl, rfl, rfl, Nat.le_refl _, fun _ _ => rfl⟩, O2.out.drew, X2.out⟩) (fun hHeld => ?_)
  generalize w2.drew = v0 at *
  have HAL := hide (fun o => show ChartAt (v0.alloc o) p bm m ∧ Only bm w (v0.alloc o) ∧ (v0.alloc o).heap[q]? = some (.cells #[.int .i64 ((m : Int) + 1), .int .u8 1, .string ⟨#[120]⟩] 75 (0, 0)) from
    have al := (Below.refl v0.heap.size v0).alloc (Nat.le_refl _) o
    ⟨hHeld.1.below al, hHeld.2.1.trans (Only.of_below al), (al.block _ (heap_lt hHeld.2.2)).trans hHeld.2.2⟩)
  refine wpAnyH_take (i := 0) (oi := { dst := some 13, op := Op.move (Operand.tmp 0), type := 23, pos := "chart.go:66", after := #[], guard := none }) (v := ?_) rfl (by kernel_rfl) (by kernel_rfl) (by kernel_rfl) (fun _ _ _ h => h) (Or.inl ⟨by kernel_rfl, ?_⟩) hHeld ?_
  rotate_left
  · (intro w hSw; (try dsimp only at hSw); have e0 := cell_of_block hSw.1.head 0; have f0 := cell_of_block hSw.2.2 0; have hlk := HLK.out _ hSw.1; go_simp); try with_reducible rfl
  try simp only [Act.put, List.setIfInBounds_toArray, List.set_cons_zero, List.set_cons_succ]
  refine wpAnyH_take (i := 1) (oi := { dst := some 14, op := Op.nilCheck (Operand.tmp 13), type := 0, pos := "chart.go:66", after := #[{ on := 0, ground := Ground.data }], guard := none }) (v := ?_) rfl (by kernel_rfl) (by kernel_rfl) (by kernel_rfl) (fun _ _ _ h => h) (Or.inl ⟨by kernel_rfl, ?_⟩) hHeld ?_
  rotate_left
  · (intro w hSw; (try dsimp only at hSw); have e0 := cell_of_block hSw.1.head 0; have f0 := cell_of_block hSw.2.2 0; have hlk := HLK.out _ hSw.1; go_simp); try with_reducible rfl
  try simp only [Act.put, List.setIfInBounds_toArray, List.set_cons_zero, List.set_cons_succ]
  refine wpAnyH_take (i := 2) (oi := { dst := some 15, op := Op.fieldAddr 104 (Operand.tmp 14) 0, type := 0, pos := "chart.go:66", after := #[{ on := 1, ground := Ground.data }], guard := none }) (v := ?_) rfl (by kernel_rfl) (by kernel_rfl) (by kernel_rfl) (fun _ _ _ h => h) (Or.inl ⟨by kernel_rfl, ?_⟩) hHeld ?_
  rotate_left
  · (intro w hSw; (try dsimp only at hSw); have e0 := cell_of_block hSw.1.head 0; have f0 := cell_of_block hSw.2.2 0; have hlk := HLK.out _ hSw.1; go_simp); try with_reducible rfl
  try simp only [Act.put, List.setIfInBounds_toArray, List.set_cons_zero, List.set_cons_succ]
  refine wpAnyH_take (i := 3) (oi := { dst := some 16, op := Op.load 102 (Operand.tmp 15), type := 102, pos := "chart.go:66", after := #[{ on := 2, ground := Ground.data }], guard := none }) (v := ?_) rfl (by kernel_rfl) (by kernel_rfl) (by kernel_rfl) (fun _ _ _ h => h) (Or.inl ⟨by kernel_rfl, ?_⟩) hHeld ?_
  rotate_left
  · (intro w hSw; (try dsimp only at hSw); have e0 := cell_of_block hSw.1.head 0; have f0 := cell_of_block hSw.2.2 0; have hlk := HLK.out _ hSw.1; go_simp); try with_reducible rfl
  try simp only [Act.put, List.setIfInBounds_toArray, List.set_cons_zero, List.set_cons_succ]
  refine wpAnyH_take (i := 4) (oi := { dst := some 17, op := Op.fieldAddr 75 (Operand.tmp 3) 0, type := 0, pos := "chart.go:66", after := #[], guard := none }) (v := ?_) rfl (by kernel_rfl) (by kernel_rfl) (by kernel_rfl) (fun _ _ _ h => h) (Or.inl ⟨by kernel_rfl, ?_⟩) hHeld ?_
  rotate_left
  · (intro w hSw; (try dsimp only at hSw); have e0 := cell_of_block hSw.1.head 0; have f0 := cell_of_block hSw.2.2 0; have hlk := HLK.out _ hSw.1; go_simp); try with_reducible rfl
  try simp only [Act.put, List.setIfInBounds_toArray, List.set_cons_zero, List.set_cons_succ]
  refine wpAnyH_take (i := 5) (oi := { dst := some 18, op := Op.load 3 (Operand.tmp 17), type := 3, pos := "chart.go:66", after := #[{ on := 4, ground := Ground.data }], guard := none }) (v := ?_) rfl (by kernel_rfl) (by kernel_rfl) (by kernel_rfl) (fun _ _ _ h => h) (Or.inl ⟨by kernel_rfl, ?_⟩) hHeld ?_
  rotate_left
  · (intro w hSw; (try dsimp only at hSw); have e0 := cell_of_block hSw.1.head 0; have f0 := cell_of_block hSw.2.2 0; have hlk := HLK.out _ hSw.1; go_simp); try with_reducible rfl
  try simp only [Act.put, List.setIfInBounds_toArray, List.set_cons_zero, List.set_cons_succ]
  refine wpAnyH_take (i := 6) (oi := { dst := some 19, op := Op.lookup 102 (Operand.tmp 16) (Operand.tmp 18) true, type := 85, pos := "chart.go:66", after := #[{ on := 3, ground := Ground.data }, { on := 5, ground := Ground.data }], guard := none }) (v := ?_) rfl (by kernel_rfl) (by kernel_rfl) (by kernel_rfl) (fun _ _ _ h => h) (Or.inl ⟨by kernel_rfl, ?_⟩) hHeld ?_
  rotate_left
  · (intro w hSw; (try dsimp only at hSw); have e0 := cell_of_block hSw.1.head 0; have f0 := cell_of_block hSw.2.2 0; have hlk := HLK.out _ hSw.1; go_simp); try with_reducible rfl
  try simp only [Act.put, List.setIfInBounds_toArray, List.set_cons_zero, List.set_cons_succ]
  refine wpAnyH_take (i := 7) (oi := { dst := some 12, op := Op.move (Operand.tmp 19), type := 85, pos := "chart.go:66", after := #[{ on := 6, ground := Ground.data }], guard := none }) (v := ?_) rfl (by kernel_rfl) (by kernel_rfl) (by kernel_rfl) (fun _ _ _ h => h) (Or.inl ⟨by kernel_rfl, ?_⟩) hHeld ?_
  rotate_left
  · (intro w hSw; (try dsimp only at hSw); have e0 := cell_of_block hSw.1.head 0; have f0 := cell_of_block hSw.2.2 0; have hlk := HLK.out _ hSw.1; go_simp); try with_reducible rfl
  try simp only [Act.put, List.setIfInBounds_toArray, List.set_cons_zero, List.set_cons_succ]
  refine wpAnyH_take (i := 8) (oi := { dst := some 20, op := Op.extract (Operand.tmp 12) 0, type := 75, pos := "chart.go:66", after := #[{ on := 7, ground := Ground.data }], guard := none }) (v := ?_) rfl (by kernel_rfl) (by kernel_rfl) (by kernel_rfl) (fun _ _ _ h => h) (Or.inl ⟨by kernel_rfl, ?_⟩) hHeld ?_
  rotate_left
  · (intro w hSw; (try dsimp only at hSw); have e0 := cell_of_block hSw.1.head 0; have f0 := cell_of_block hSw.2.2 0; have hlk := HLK.out _ hSw.1; go_simp); try with_reducible rfl
  try simp only [Act.put, List.setIfInBounds_toArray, List.set_cons_zero, List.set_cons_succ]
  refine wpAnyH_take (i := 9) (oi := { dst := some 21, op := Op.extract (Operand.tmp 12) 1, type := 4, pos := "chart.go:66", after := #[{ on := 7, ground := Ground.data }, { on := 11, ground := Ground.gcOnly Departure.lateStores }], guard := none }) (v := ?_) rfl (by kernel_rfl) (by kernel_rfl) (by kernel_rfl) (fun _ _ _ h => h) (Or.inl ⟨by kernel_rfl, ?_⟩) hHeld ?_
  rotate_left
  · (intro w hSw; (try dsimp only at hSw); have e0 := cell_of_block hSw.1.head 0; have f0 := cell_of_block hSw.2.2 0; have hlk := HLK.out _ hSw.1; go_simp); try with_reducible rfl
  try simp only [Act.put, List.setIfInBounds_toArray, List.set_cons_zero, List.set_cons_succ]
  refine wpAnyH_ready (rs := [10]) (by kernel_rfl) (by simp) (AllReadyH.cons (o := { dst := some 5, op := Op.alloc 75, type := 0, pos := "chart.go:66", after := #[], guard := none }) rfl (fun K hK => ?_) AllReadyH.nil)
  have hOld := hide hHeld
  clear hHeld
  go_simp
  skip
  (try go_wp2_with fail)
  refine hK.out _ _ (HAL.out _) (fun hHeld => ?_)
  clear hK K hOld
  try simp only [Act.put, List.setIfInBounds_toArray, List.set_cons_zero, List.set_cons_succ]
  refine wpAnyH_ready (rs := [11]) (by kernel_rfl) (by simp) (AllReadyH.cons (o := { dst := none, op := Op.store 75 (Operand.tmp 5) (Operand.tmp 20), type := 0, pos := "chart.go:66", after := #[{ on := 10, ground := Ground.data }, { on := 8, ground := Ground.data }, { on := 0, ground := Ground.phase }, { on := 1, ground := Ground.phase }, { on := 2, ground := Ground.phase }, { on := 3, ground := Ground.phase }, { on := 4, ground := Ground.phase }, { on := 5, ground := Ground.phase }, { on := 6, ground := Ground.phase }, { on := 7, ground := Ground.phase }, { on := 8, ground := Ground.phase }, { on := 9, ground := Ground.textOnly Departure.lateStores }, { on := 10, ground := Ground.phase }], guard := none }) rfl (fun K hK => ?_) AllReadyH.nil)
  have hOld := hide hHeld
  clear hHeld
  go_simp
  skip
  (try go_wp2_with fail)
  refine hK.out _ _ (HAL.out _) (fun hHeld => ?_)
  clear hK K hOld
  try simp only [Act.put, List.setIfInBounds_toArray, List.set_cons_zero, List.set_cons_succ]
  refine wpAnyH_take (i := 12) (oi := { dst := some 6, op := Op.assign (Operand.tmp 21), type := 4, pos := "chart.go:66", after := #[{ on := 9, ground := Ground.data }, { on := 11, ground := Ground.chain }, { on := 0, ground := Ground.phase }, { on := 1, ground := Ground.phase }, { on := 2, ground := Ground.phase }, { on := 3, ground := Ground.phase }, { on := 4, ground := Ground.phase }, { on := 5, ground := Ground.phase }, { on := 6, ground := Ground.phase }, { on := 7, ground := Ground.phase }, { on := 8, ground := Ground.phase }, { on := 9, ground := Ground.phase }, { on := 10, ground := Ground.phase }, { on := 11, ground := Ground.phase }], guard := none }) (v := ?_) rfl (by kernel_rfl) (by kernel_rfl) (by kernel_rfl) (fun _ _ _ h => h) (Or.inl ⟨by kernel_rfl, ?_⟩) hHeld ?_
  rotate_left
  · (intro w hSw; (try dsimp only at hSw); have e0 := cell_of_block hSw.1.head 0; have f0 := cell_of_block hSw.2.2 0; have hlk := HLK.out _ hSw.1; go_simp); try with_reducible rfl
  try simp only [Act.put, List.setIfInBounds_toArray, List.set_cons_zero, List.set_cons_succ]
  refine wpAnyH_done (by kernel_rfl) ?_ _
  have HELD := hide hHeld
  clear hHeld
  clear HAL HLK X2 C2 O2
  generalize v0.alloc (Obj.cells #[Value.int IntKind.i64 0, Value.int IntKind.u8 0, Value.string ⟨#[]⟩] 75) = v1 at *
  have HD := HELD.out
  obtain ⟨hc1, ho1, hx1⟩ := HD
  clear HELD
  obtain ⟨c, f, hM, hF, hcm⟩ := hc1.map
  have HM := hide hM
  have HF := hide hF
  have O3 := hide ho1
  have C3 := hide hc1
  have X3 := hide hx1
  have e0 := cell_of_block hc1.head 0
  have hc64 : ¬ (64 : Int) ≤ (c : Int) := by omega
  have HCM := hide hcm
  clear hM hF ho1 hc1 hx1
  have hmn : ∀ W, (binOp BinOp.eql 102 (.map (some bm)) (.map none)).run Try.prog W = .ok (.bool false) W := fun W => by kernel_rfl
  go_upto_region 12 with (at_len; refine wpList_mapLen v1 rfl _ 102 rfl 3 75 Try.underlying102 bm m c f rfl HM.out ?_)
  have f0 := cell_of_block X3.out 0
  have f1 := cell_of_block X3.out 1
  have f2 := cell_of_block X3.out 2
  go_still_tail 7, (by kernel_rfl)
  change wpList _ _ _ _ _ v1.drew
  have hk : inR ((m : Int) + 1) := by unfold inR; omega
  refine wpList_mapStore v1.drew rfl _ _ _ 102 rfl 3 75 Keyed_int Try.underlying102 bm m c f rfl (HM.out.kept rfl) (by unfold maxLen; omega) (.int .i64 ((m : Int) + 1)) (accV ((m : Int) + 1)) (.int .i64 ((m : Int) + 1)) rfl rfl (key_int hk) (by trivial) ?_
  intro w4 hm4 hg4
  have O4 := hide (O3.out.drew.trans (only_of_grown hg4))
  have C4 := hide (show ChartAt w4 p bm (m + 1) from ⟨((only_of_grown hg4).block _ (heap_lt C3.out.head) C3.out.ne).trans C3.out.head, _, _, hm4, chf_next HF.out (by omega), by have := HCM.out; split <;> omega⟩)
  clear hm4 hg4 hk
  go_wp2_with fail
  go_ret
  exact ⟨rfl, C4.out, O4.out⟩

end Go.Proofs.Ytjjldphbflbbdaa
