/-
  Layer 21: charts in memory: New, Add, Get.
-/
import Derived.Test.YtehjhldijhoeeaaChart

namespace Go.Proofs.Ytehjhldijhoeeaa
set_option linter.unusedSimpArgs false
set_option linter.unusedVariables false
open Go.RowKit Go.WideShapes Go.ChangeShapes Go.ChangeAt Go.Deep
theorem wf_of {a : Int} (h : -9223372036854775808 ≤ a ∧ a ≤ 9223372036854775807) : (Lit.int .i64 a).wf = true := by
  obtain ⟨h2, h3⟩ := h
  simp [Lit.wf, IntKind.min, IntKind.max, IntKind.signed, IntKind.bits]
  exact ⟨h2, h3⟩
def in64 (a : Int) : Prop := -9223372036854775808 ≤ a ∧ a ≤ 9223372036854775807
theorem Keyed_int : Go.Maps.Keyed Try.prog 3 := Go.Maps.int_keyed Try.underlying3
theorem key_int {a : Int} (h : in64 a) : keyOf Try.prog 3 (.int .i64 a) = some (.int .i64 a) := Go.Maps.keyOf_int_mk Try.underlying3 (wf_of h)
/-- the account of a code -/
def getA (M : List AcM) (k : Int) : Option AcM := M.find? (fun x => x.code == k)
/-- an account more, by rising codes -/
def insA (M : List AcM) (x : AcM) : List AcM :=
  match M with
  | [] => [x]
  | y :: M => if x.code < y.code then x :: y :: M else y :: insA M x
def RisesA (M : List AcM) : Prop := M.Pairwise (fun x y => x.code < y.code)
theorem insA_mem {M : List AcM} {x y : AcM} : y ∈ insA M x ↔ y = x ∨ y ∈ M := by
  induction M with
  | nil => simp [insA]
  | cons z M ih =>
    unfold insA
    split
    · simp
    · rw [List.mem_cons, ih, List.mem_cons]
      constructor
      · rintro (h | h | h)
        · exact .inr (.inl h)
        · exact .inl h
        · exact .inr (.inr h)
      · rintro (h | h | h)
        · exact .inr (.inl h)
        · exact .inl h
        · exact .inr (.inr h)
theorem insA_length (M : List AcM) (x : AcM) : (insA M x).length = M.length + 1 := by
  induction M with
  | nil => rfl
  | cons z M ih =>
    unfold insA
    split
    · simp
    · simp [ih]
theorem getA_none {M : List AcM} {k : Int} : getA M k = none ↔ ∀ x ∈ M, x.code ≠ k := by
  unfold getA
  rw [List.find?_eq_none]
  constructor
  · intro h x hx e; exact h x hx (by simpa using e)
  · intro h x hx e; exact h x hx (by simpa using e)
theorem insA_rises {M : List AcM} {x : AcM} (h : RisesA M) (hn : getA M x.code = none) : RisesA (insA M x) := by
  rw [getA_none] at hn
  induction M with
  | nil => simp [insA, RisesA]
  | cons z M ih =>
    unfold RisesA at h ⊢
    rw [List.pairwise_cons] at h
    unfold insA
    have hz := hn z (by simp)
    split
    next hlt =>
      rw [List.pairwise_cons, List.pairwise_cons]
      refine ⟨fun y hy => ?_, h.1, h.2⟩
      rcases List.mem_cons.1 hy with rfl | hy
      · exact hlt
      · have := h.1 y hy; omega
    next hge =>
      rw [List.pairwise_cons]
      refine ⟨fun y hy => ?_, ih h.2 (fun y hy => hn y (by simp [hy]))⟩
      rcases insA_mem.1 hy with rfl | hy
      · omega
      · exact h.1 y hy
theorem insA_get {M : List AcM} {x : AcM} (hn : getA M x.code = none) (k : Int) : getA (insA M x) k = if k = x.code then some x else getA M k := by
  rw [getA_none] at hn
  unfold getA
  induction M with
  | nil => simp [insA, List.find?_cons]; split <;> split <;> simp_all
  | cons z M ih =>
    have hz := hn z (by simp)
    have ih := ih (fun y hy => hn y (by simp [hy]))
    unfold insA
    split
    · simp only [List.find?_cons]
      by_cases e : k = x.code
      · subst e; simp
      · have : (x.code == k) = false := by simpa using fun h => e h.symm
        rw [this, if_neg e]
    · rw [List.find?_cons, ih, List.find?_cons]
      by_cases e : k = x.code
      · subst e
        have : (z.code == x.code) = false := by simpa using hz
        rw [this]
      · rw [if_neg e, if_neg e]
/-- what each code has -/
def ChF (M : List AcM) (f : Lit → Option Value) : Prop := ∀ k : Int, in64 k → f (.int .i64 k) = (getA M k).map acV
/-- a chart in memory -/
structure ChartIs (w : World) (p bm : Nat) (M : List AcM) : Prop where
  head : w.heap[p]? = some (.cells #[.map (some bm)] 69 (0, 0))
  map : ∃ f, MapIs w Try.prog 3 bm M.length M.length f ∧ ChF M f
  rises : RisesA M
  ok : ∀ x ∈ M, AcOk x
  few : M.length ≤ 64
theorem map_noCells {w : World} {P : Program} {k : TypeId} {b n c : Nat} {f : Lit → Option Value} (h : MapIs w P k b n c f) (d : Array Value) (t : TypeId) (fz : Nat × Nat) : w.heap[b]? ≠ some (.cells d t fz) := by
  obtain ⟨D, h1, h2⟩ := h
  intro he
  obtain ⟨es, nx, hh, -⟩ := h1
  simp_all
theorem ChartIs.lt {w : World} {p bm : Nat} {M : List AcM} (h : ChartIs w p bm M) : bm < w.heap.size ∧ p < w.heap.size := by
  obtain ⟨f, h1, h2⟩ := h.map
  exact ⟨h1.lt, heap_lt h.head⟩
theorem ChartIs.kept {w w' : World} {p bm : Nat} {M : List AcM} (h : ChartIs w p bm M) (h1 : w'.heap[p]? = w.heap[p]?) (h2 : w'.heap[bm]? = w.heap[bm]?) : ChartIs w' p bm M := by
  obtain ⟨f, g1, g2⟩ := h.map
  exact ⟨h1.trans h.head, ⟨f, g1.kept h2, g2⟩, h.rises, h.ok, h.few⟩
theorem ChartIs.below {w w' : World} {p bm : Nat} {M : List AcM} (h : ChartIs w p bm M) (hb : Below w.heap.size w w') : ChartIs w' p bm M := h.kept (hb.block _ h.lt.2) (hb.block _ h.lt.1)
theorem ChartIs.drew {w : World} {p bm : Nat} {M : List AcM} (h : ChartIs w p bm M) : ChartIs w.drew p bm M := h.kept rfl rfl
theorem ChartIs.drewN {w : World} {p bm : Nat} {M : List AcM} (h : ChartIs w p bm M) (n : Nat) : ChartIs (w.drewN n) p bm M := h.kept rfl rfl
theorem ChartIs.only {w w' : World} {p bm q : Nat} {M : List AcM} (h : ChartIs w p bm M) (ho : Only q w w') (h1 : p ≠ q) (h2 : bm ≠ q) : ChartIs w' p bm M := h.kept (ho.block _ h.lt.2 h1) (ho.block _ h.lt.1 h2)
theorem ChartIs.ne {w : World} {p bm : Nat} {M : List AcM} (h : ChartIs w p bm M) : p ≠ bm := fun e => by
  obtain ⟨f, h1, h2⟩ := h.map
  exact map_noCells h1 _ _ _ (e ▸ h.head)
theorem ChartIs.noCells {w : World} {p bm : Nat} {M : List AcM} (h : ChartIs w p bm M) (d : Array Value) (t : TypeId) (fz : Nat × Nat) : w.heap[bm]? ≠ some (.cells d t fz) := by
  obtain ⟨f, h1, h2⟩ := h.map
  exact map_noCells h1 _ _ _
set_option maxRecDepth 100000 in
theorem chNew (w : World) : Calls Try.prog 6 #[] w fun e w' => ∃ p bm, e = .returned (.pointer (some ⟨p, 0, none⟩)) ∧ ChartIs w' p bm [] ∧ w.heap.size ≤ bm ∧ w.heap.size ≤ p ∧ Below w.heap.size w w' := by
  have hmm := @run_makeMap Try.prog
  go_enter Try.func6, Try.ntmps6
  go_wp2_with fail
  go_ret
  have M1 := MapIs.made w Try.prog 3
  have hb1 := (Below.refl w.heap.size w).alloc (Nat.le_refl _) (.map #[] 0)
  have hs : (w.alloc (.map #[] 0)).heap.size = w.heap.size + 1 := by simp
  have hb2 := (Below.refl (w.alloc (.map #[] 0)).heap.size (w.alloc (.map #[] 0))).alloc (Nat.le_refl _) (.cells #[.map (some w.heap.size)] 69)
  have X := heap_new (w.alloc (.map #[] 0)) (.cells #[.map (some w.heap.size)] 69)
  rw [hs] at X
  exact ⟨w.heap.size + 1, w.heap.size, rfl, ⟨X, ⟨_, M1.below hb2, fun k _ => rfl⟩, List.Pairwise.nil, (fun x hx => by cases hx), Nat.zero_le _⟩, Nat.le_refl _, by omega, hb1.trans (hb2.mono (by omega))⟩
theorem zero_acc (w : World) : (zeroValue 31).run Try.prog w = .ok (acV ac0) w := by kernel_rfl
/-- what Get tells -/
def getV (M : List AcM) (k : Int) : AcM := (getA M k).getD ac0
theorem ChartIs.look {w : World} {p bm : Nat} {M : List AcM} (h : ChartIs w p bm M) {k : Int} (hk : in64 k) : (Instr.lookup 67 (.map (some bm)) (.int .i64 k) true).run Try.prog w = .ok (.tuple #[acV (getV M k), .bool (getA M k).isSome]) w := by
  obtain ⟨f, hM, hF⟩ := h.map
  have h1 := hM.look_ok Keyed_int Try.underlying67 (zero_acc w) (key_int hk) (by trivial)
  rw [hF k hk] at h1
  rw [h1]
  unfold getV
  cases getA M k <;> rfl
theorem ChartIs.at1 {w : World} {p bm : Nat} {M : List AcM} (h : ChartIs w p bm M) {k : Int} (hk : in64 k) : (Instr.lookup 67 (.map (some bm)) (.int .i64 k) false).run Try.prog w = .ok (acV (getV M k)) w := by
  obtain ⟨f, hM, hF⟩ := h.map
  have h1 := hM.look Keyed_int Try.underlying67 (zero_acc w) (key_int hk) (by trivial)
  rw [hF k hk] at h1
  rw [h1]
  unfold getV
  cases getA M k <;> rfl
set_option maxRecDepth 100000 in
set_option maxHeartbeats 800000 in
theorem chget_any (p bm : Nat) (M : List AcM) (k : Int) (hk : in64 k) (w : World) (h : ChartIs w p bm M) :
    Calls Try.prog 17 #[.pointer (some ⟨p, 0, none⟩), .int .i64 k] w fun e w' => e = .returned (.tuple #[acV (getV M k), .bool (getA M k).isSome]) ∧ Below w.heap.size w w' := by
  obtain ⟨ob, hob⟩ : ∃ ob, ob = (Obj.cells #[.int .i64 0, .int .u8 0, .string ⟨#[]⟩] 31) := ⟨_, rfl⟩
  have hal := (Below.refl w.heap.size w).alloc (Nat.le_refl _) ob
  have hlk := (h.below hal).look hk
  have X := hide ((hal.block _ (heap_lt h.head)).trans h.head)
  have Z := hide (heap_new w ob)
  have HA := hide hal
  have hc := cell_of_block X.out 0
  generalize (getA M k).isSome = d at *
  generalize getV M k = z at *
  obtain ⟨a0, b0, s0⟩ := z
  unfold acV at *
  dsimp only at *
  clear h hal
  go_enter Try.func17, Try.ntmps17
  rw [hob] at *
  go_wp2_with fail
  clear hob
  have hb1 := (Below.refl w.heap.size w).alloc (Nat.le_refl _) (.cells #[.int .i64 a0, .int .u8 b0, .string s0] 31)
  have hs1 : (w.alloc (.cells #[.int .i64 a0, .int .u8 b0, .string s0] 31)).heap.size = w.heap.size + 1 := by simp
  have z0 := heap_new w (.cells #[.int .i64 a0, .int .u8 b0, .string s0] 31)
  generalize w.alloc (.cells #[.int .i64 a0, .int .u8 b0, .string s0] 31) = w1 at *
  have hb2 := (Below.refl w1.heap.size w1).alloc (Nat.le_refl _) (.cells #[.int .i64 a0, .int .u8 b0, .string s0] 31)
  have y0 := (hb2.block _ (heap_lt z0)).trans z0
  refine bodyPost_ret (v := .tuple #[.agg #[.int .i64 a0, .int .u8 b0, .string s0], .bool d]) ?_ rfl ⟨rfl, hb1.trans (hb2.mono (by omega))⟩
  have z1 := cell_of_block y0 0
  have z2 := cell_of_block y0 1
  have z3 := cell_of_block y0 2
  simp [results, Try.results17, go_sem, z1, z2, z3]
/-- what Add tells, and makes -/
def addE (M : List AcM) (x : AcM) : Int := if rightB x = false then 2 else if (getA M x.code).isSome then 16 else if 64 ≤ M.length then 7 else 0
def addM (M : List AcM) (x : AcM) : List AcM := if addE M x = 0 then insA M x else M
theorem addM_no {M : List AcM} {x : AcM} (h : addE M x ≠ 0) : addM M x = M := if_neg h
set_option maxRecDepth 100000 in
set_option maxHeartbeats 1000000 in
theorem chadd_any (p bm : Nat) (M : List AcM) (x : AcM) (hx : AcOk x) (w : World) (h : ChartIs w p bm M) :
    Calls Try.prog 13 #[.pointer (some ⟨p, 0, none⟩), acV x] w fun e w' => e = .returned (.int .i64 (addE M x)) ∧ ChartIs w' p bm (addM M x) ∧ Only bm w w' := by
  have hR := fun W => aright_any x hx W
  have HE := hide (show addE M x = if rightB x = false then 2 else if (getA M x.code).isSome then 16 else if 64 ≤ M.length then 7 else 0 from rfl)
  have HAM := hide (fun h => @addM_no M x h)
  have HXO := hide hx
  have hki : in64 x.code := hx.code
  have HXC := hide (Eq.refl x)
  obtain ⟨c, k, s⟩ := x
  unfold acV at *
  dsimp only at *
  obtain ⟨ob, hob⟩ : ∃ ob, ob = (Obj.cells #[.int .i64 c, .int .u8 k, .string s] 31) := ⟨_, rfl⟩
  have hal := (Below.refl w.heap.size w).alloc (Nat.le_refl _) ob
  have X1 := hide (show (w.alloc ob).heap[w.heap.size]? = some (.cells #[.int .i64 c, .int .u8 k, .string s] 31 (0, 0)) by rw [heap_new, hob])
  have C1 := hide (h.below hal)
  have HO := hide (Only.of_below (q := bm) hal)
  have HR := hide hR
  have HK := hide hki
  have HFEW := hide h.few
  clear h hal hx hR hki HXC
  go_enter Try.func13, Try.ntmps13
  go_wp2_with fail
  rw [← hob]
  generalize w.alloc ob = w1 at *
  generalize w.heap.size = q at *
  clear hob ob
  refine (HR.out _).mono ?_
  rintro e w2 ⟨rfl, hb⟩
  have X2 := hide ((hb.block _ (heap_lt X1.out)).trans X1.out)
  have C2 := hide (C1.out.below hb)
  have O2 := hide (HO.out.trans (Only.of_below (q := bm) hb))
  clear hb X1 C1 HO HR
  by_cases hr : rightB ⟨c, k, s⟩ = false
  · have h1 : addE M ⟨c, k, s⟩ = 2 := HE.out.trans (if_pos hr)
    have h2 := HAM.out (show addE M ⟨c, k, s⟩ ≠ 0 by rw [h1]; decide)
    have H1 := hide h1
    have H2 := hide h2
    rw [hr]
    clear h1 h2 hr
    go_wp2_with fail
    go_ret
    exact ⟨ret_int H1.out.symm, by rw [H2.out]; exact C2.out, O2.out⟩
  · have h1 : addE M ⟨c, k, s⟩ = if (getA M c).isSome then 16 else if 64 ≤ M.length then 7 else 0 := HE.out.trans (if_neg hr)
    rw [show rightB ⟨c, k, s⟩ = true by simpa using hr]
    have H1 := hide h1
    obtain ⟨zc, hzc⟩ : ∃ z, z = (getV M c).code := ⟨_, rfl⟩
    obtain ⟨zk, hzk⟩ : ∃ z, z = (getV M c).kind := ⟨_, rfl⟩
    obtain ⟨zs, hzs⟩ : ∃ z, z = (getV M c).name := ⟨_, rfl⟩
    have HLK := hide (show ∀ W, ChartIs W p bm M → (Instr.lookup 67 (.map (some bm)) (.int .i64 c) true).run Try.prog W = .ok (.tuple #[.agg #[.int .i64 zc, .int .u8 zk, .string zs], .bool (getA M c).isSome]) W from fun W hW => by
      rw [hzc, hzk, hzs]
      exact hW.look HK.out)
    have HRI := hide (show getA M c = none → RisesA (insA M ⟨c, k, s⟩) from fun h => insA_rises C2.out.rises h)
    have HGE := hide (show getA M c = none → ∀ j, getA (insA M ⟨c, k, s⟩) j = if j = c then some ⟨c, k, s⟩ else getA M j from fun h j => insA_get (x := ⟨c, k, s⟩) h j)
    have HSN := hide (show getA M c = none ↔ (getA M c).isSome = false from by cases getA M c <;> simp)
    have HAD := hide (show addE M ⟨c, k, s⟩ = 0 → addM M ⟨c, k, s⟩ = insA M ⟨c, k, s⟩ from fun h => if_pos h)
    generalize (getA M c).isSome = th at *
    clear h1 hr HE hzc hzk hzs
    go_upto_region 5 with (fail)
    refine wp_region_held_drew (S := (fun W => ChartIs W p bm M ∧ Only bm w W ∧ W.heap[q]? = some (.cells #[.int .i64 c, .int .u8 k, .string s] 31 (0, 0)))) (by kernel_rfl) (⟨C2.out.drew, O2.out.drew, X2.out⟩) (fun hHeld => ?_)
    generalize w2.drew = v0 at *
    have HAL := hide (fun o => show ChartIs (v0.alloc o) p bm M ∧ Only bm w (v0.alloc o) ∧ (v0.alloc o).heap[q]? = some (.cells #[.int .i64 c, .int .u8 k, .string s] 31 (0, 0)) from
      have al := (Below.refl v0.heap.size v0).alloc (Nat.le_refl _) o
      ⟨hHeld.1.below al, hHeld.2.1.trans (Only.of_below al), (al.block _ (heap_lt hHeld.2.2)).trans hHeld.2.2⟩)
    refine wpAnyH_take (i := 0) (oi := { dst := some 13, op := Op.move (Operand.tmp 0), type := 23, pos := "chart.go:66", after := #[], guard := none }) (v := ?_) rfl (by kernel_rfl) (by kernel_rfl) (by kernel_rfl) (fun _ _ _ h => h) (Or.inl ⟨by kernel_rfl, ?_⟩) hHeld ?_
    rotate_left
    · (intro w hSw; (try dsimp only at hSw); have e0 := cell_of_block hSw.1.head 0; have f0 : w.cell? ⟨q, 0, none⟩ = some (.int .i64 c) := cell_of_block hSw.2.2 0; have hlk := HLK.out _ hSw.1; go_simp); try with_reducible rfl
    try simp only [Act.put, List.setIfInBounds_toArray, List.set_cons_zero, List.set_cons_succ]
    refine wpAnyH_take (i := 1) (oi := { dst := some 14, op := Op.nilCheck (Operand.tmp 13), type := 0, pos := "chart.go:66", after := #[{ on := 0, ground := Ground.data }], guard := none }) (v := ?_) rfl (by kernel_rfl) (by kernel_rfl) (by kernel_rfl) (fun _ _ _ h => h) (Or.inl ⟨by kernel_rfl, ?_⟩) hHeld ?_
    rotate_left
    · (intro w hSw; (try dsimp only at hSw); have e0 := cell_of_block hSw.1.head 0; have f0 : w.cell? ⟨q, 0, none⟩ = some (.int .i64 c) := cell_of_block hSw.2.2 0; have hlk := HLK.out _ hSw.1; go_simp); try with_reducible rfl
    try simp only [Act.put, List.setIfInBounds_toArray, List.set_cons_zero, List.set_cons_succ]
    refine wpAnyH_take (i := 2) (oi := { dst := some 15, op := Op.fieldAddr 69 (Operand.tmp 14) 0, type := 0, pos := "chart.go:66", after := #[{ on := 1, ground := Ground.data }], guard := none }) (v := ?_) rfl (by kernel_rfl) (by kernel_rfl) (by kernel_rfl) (fun _ _ _ h => h) (Or.inl ⟨by kernel_rfl, ?_⟩) hHeld ?_
    rotate_left
    · (intro w hSw; (try dsimp only at hSw); have e0 := cell_of_block hSw.1.head 0; have f0 : w.cell? ⟨q, 0, none⟩ = some (.int .i64 c) := cell_of_block hSw.2.2 0; have hlk := HLK.out _ hSw.1; go_simp); try with_reducible rfl
    try simp only [Act.put, List.setIfInBounds_toArray, List.set_cons_zero, List.set_cons_succ]
    refine wpAnyH_take (i := 3) (oi := { dst := some 16, op := Op.load 67 (Operand.tmp 15), type := 67, pos := "chart.go:66", after := #[{ on := 2, ground := Ground.data }], guard := none }) (v := ?_) rfl (by kernel_rfl) (by kernel_rfl) (by kernel_rfl) (fun _ _ _ h => h) (Or.inl ⟨by kernel_rfl, ?_⟩) hHeld ?_
    rotate_left
    · (intro w hSw; (try dsimp only at hSw); have e0 := cell_of_block hSw.1.head 0; have f0 : w.cell? ⟨q, 0, none⟩ = some (.int .i64 c) := cell_of_block hSw.2.2 0; have hlk := HLK.out _ hSw.1; go_simp); try with_reducible rfl
    try simp only [Act.put, List.setIfInBounds_toArray, List.set_cons_zero, List.set_cons_succ]
    refine wpAnyH_take (i := 4) (oi := { dst := some 17, op := Op.fieldAddr 31 (Operand.tmp 3) 0, type := 0, pos := "chart.go:66", after := #[], guard := none }) (v := ?_) rfl (by kernel_rfl) (by kernel_rfl) (by kernel_rfl) (fun _ _ _ h => h) (Or.inl ⟨by kernel_rfl, ?_⟩) hHeld ?_
    rotate_left
    · (intro w hSw; (try dsimp only at hSw); have e0 := cell_of_block hSw.1.head 0; have f0 : w.cell? ⟨q, 0, none⟩ = some (.int .i64 c) := cell_of_block hSw.2.2 0; have hlk := HLK.out _ hSw.1; go_simp); try with_reducible rfl
    try simp only [Act.put, List.setIfInBounds_toArray, List.set_cons_zero, List.set_cons_succ]
    refine wpAnyH_take (i := 5) (oi := { dst := some 18, op := Op.load 3 (Operand.tmp 17), type := 3, pos := "chart.go:66", after := #[{ on := 4, ground := Ground.data }], guard := none }) (v := ?_) rfl (by kernel_rfl) (by kernel_rfl) (by kernel_rfl) (fun _ _ _ h => h) (Or.inl ⟨by kernel_rfl, ?_⟩) hHeld ?_
    rotate_left
    · (intro w hSw; (try dsimp only at hSw); have e0 := cell_of_block hSw.1.head 0; have f0 : w.cell? ⟨q, 0, none⟩ = some (.int .i64 c) := cell_of_block hSw.2.2 0; have hlk := HLK.out _ hSw.1; go_simp); try with_reducible rfl
    try simp only [Act.put, List.setIfInBounds_toArray, List.set_cons_zero, List.set_cons_succ]
    refine wpAnyH_take (i := 6) (oi := { dst := some 19, op := Op.lookup 67 (Operand.tmp 16) (Operand.tmp 18) true, type := 47, pos := "chart.go:66", after := #[{ on := 3, ground := Ground.data }, { on := 5, ground := Ground.data }], guard := none }) (v := ?_) rfl (by kernel_rfl) (by kernel_rfl) (by kernel_rfl) (fun _ _ _ h => h) (Or.inl ⟨by kernel_rfl, ?_⟩) hHeld ?_
    rotate_left
    · (intro w hSw; (try dsimp only at hSw); have e0 := cell_of_block hSw.1.head 0; have f0 : w.cell? ⟨q, 0, none⟩ = some (.int .i64 c) := cell_of_block hSw.2.2 0; have hlk := HLK.out _ hSw.1; go_simp); try with_reducible rfl
    try simp only [Act.put, List.setIfInBounds_toArray, List.set_cons_zero, List.set_cons_succ]
    refine wpAnyH_take (i := 7) (oi := { dst := some 12, op := Op.move (Operand.tmp 19), type := 47, pos := "chart.go:66", after := #[{ on := 6, ground := Ground.data }], guard := none }) (v := ?_) rfl (by kernel_rfl) (by kernel_rfl) (by kernel_rfl) (fun _ _ _ h => h) (Or.inl ⟨by kernel_rfl, ?_⟩) hHeld ?_
    rotate_left
    · (intro w hSw; (try dsimp only at hSw); have e0 := cell_of_block hSw.1.head 0; have f0 : w.cell? ⟨q, 0, none⟩ = some (.int .i64 c) := cell_of_block hSw.2.2 0; have hlk := HLK.out _ hSw.1; go_simp); try with_reducible rfl
    try simp only [Act.put, List.setIfInBounds_toArray, List.set_cons_zero, List.set_cons_succ]
    refine wpAnyH_take (i := 8) (oi := { dst := some 20, op := Op.extract (Operand.tmp 12) 0, type := 31, pos := "chart.go:66", after := #[{ on := 7, ground := Ground.data }], guard := none }) (v := ?_) rfl (by kernel_rfl) (by kernel_rfl) (by kernel_rfl) (fun _ _ _ h => h) (Or.inl ⟨by kernel_rfl, ?_⟩) hHeld ?_
    rotate_left
    · (intro w hSw; (try dsimp only at hSw); have e0 := cell_of_block hSw.1.head 0; have f0 : w.cell? ⟨q, 0, none⟩ = some (.int .i64 c) := cell_of_block hSw.2.2 0; have hlk := HLK.out _ hSw.1; go_simp); try with_reducible rfl
    try simp only [Act.put, List.setIfInBounds_toArray, List.set_cons_zero, List.set_cons_succ]
    refine wpAnyH_take (i := 9) (oi := { dst := some 21, op := Op.extract (Operand.tmp 12) 1, type := 4, pos := "chart.go:66", after := #[{ on := 7, ground := Ground.data }, { on := 11, ground := Ground.gcOnly Departure.lateStores }], guard := none }) (v := ?_) rfl (by kernel_rfl) (by kernel_rfl) (by kernel_rfl) (fun _ _ _ h => h) (Or.inl ⟨by kernel_rfl, ?_⟩) hHeld ?_
    rotate_left
    · (intro w hSw; (try dsimp only at hSw); have e0 := cell_of_block hSw.1.head 0; have f0 : w.cell? ⟨q, 0, none⟩ = some (.int .i64 c) := cell_of_block hSw.2.2 0; have hlk := HLK.out _ hSw.1; go_simp); try with_reducible rfl
    try simp only [Act.put, List.setIfInBounds_toArray, List.set_cons_zero, List.set_cons_succ]
    refine wpAnyH_ready (rs := [10]) (by kernel_rfl) (by simp) (AllReadyH.cons (o := { dst := some 5, op := Op.alloc 31, type := 0, pos := "chart.go:66", after := #[], guard := none }) rfl (fun K hK => ?_) AllReadyH.nil)
    have hOld := hide hHeld
    clear hHeld
    go_simp
    skip
    (try go_wp2_with fail)
    refine hK.out _ _ (HAL.out _) (fun hHeld => ?_)
    clear hK K hOld
    try simp only [Act.put, List.setIfInBounds_toArray, List.set_cons_zero, List.set_cons_succ]
    refine wpAnyH_ready (rs := [11]) (by kernel_rfl) (by simp) (AllReadyH.cons (o := { dst := none, op := Op.store 31 (Operand.tmp 5) (Operand.tmp 20), type := 0, pos := "chart.go:66", after := #[{ on := 10, ground := Ground.data }, { on := 8, ground := Ground.data }, { on := 0, ground := Ground.phase }, { on := 1, ground := Ground.phase }, { on := 2, ground := Ground.phase }, { on := 3, ground := Ground.phase }, { on := 4, ground := Ground.phase }, { on := 5, ground := Ground.phase }, { on := 6, ground := Ground.phase }, { on := 7, ground := Ground.phase }, { on := 8, ground := Ground.phase }, { on := 9, ground := Ground.textOnly Departure.lateStores }, { on := 10, ground := Ground.phase }], guard := none }) rfl (fun K hK => ?_) AllReadyH.nil)
    have hOld := hide hHeld
    clear hHeld
    go_simp
    skip
    (try go_wp2_with fail)
    refine hK.out _ _ (HAL.out _) (fun hHeld => ?_)
    clear hK K hOld
    try simp only [Act.put, List.setIfInBounds_toArray, List.set_cons_zero, List.set_cons_succ]
    refine wpAnyH_take (i := 12) (oi := { dst := some 6, op := Op.assign (Operand.tmp 21), type := 4, pos := "chart.go:66", after := #[{ on := 9, ground := Ground.data }, { on := 11, ground := Ground.chain }, { on := 0, ground := Ground.phase }, { on := 1, ground := Ground.phase }, { on := 2, ground := Ground.phase }, { on := 3, ground := Ground.phase }, { on := 4, ground := Ground.phase }, { on := 5, ground := Ground.phase }, { on := 6, ground := Ground.phase }, { on := 7, ground := Ground.phase }, { on := 8, ground := Ground.phase }, { on := 9, ground := Ground.phase }, { on := 10, ground := Ground.phase }, { on := 11, ground := Ground.phase }], guard := none }) (v := ?_) rfl (by kernel_rfl) (by kernel_rfl) (by kernel_rfl) (fun _ _ _ h => h) (Or.inl ⟨by kernel_rfl, ?_⟩) hHeld ?_
    rotate_left
    · (intro w hSw; (try dsimp only at hSw); have e0 := cell_of_block hSw.1.head 0; have f0 : w.cell? ⟨q, 0, none⟩ = some (.int .i64 c) := cell_of_block hSw.2.2 0; have hlk := HLK.out _ hSw.1; go_simp); try with_reducible rfl
    try simp only [Act.put, List.setIfInBounds_toArray, List.set_cons_zero, List.set_cons_succ]
    refine wpAnyH_done (by kernel_rfl) ?_ _
    have HELD := hide hHeld
    clear hHeld
    clear HAL HLK X2 C2 O2
    generalize v0.alloc (Obj.cells #[.int .i64 zc, .int .u8 zk, .string zs] 31) = v1 at *
    obtain ⟨hc1, ho1, hx1⟩ := HELD.out
    clear HELD
    obtain ⟨f, hM, hF⟩ := hc1.map
    have HM := hide hM
    have HF := hide hF
    have O3 := hide ho1
    have C3 := hide hc1
    have X3 := hide hx1
    have e0 := cell_of_block hc1.head 0
    clear hM hF ho1 hc1 hx1
    cases th with
    | true =>
      have h2 : addE M ⟨c, k, s⟩ = 16 := H1.out.trans (if_pos rfl)
      have H2 := hide h2
      have H3 := hide (HAM.out (show addE M ⟨c, k, s⟩ ≠ 0 by rw [h2]; decide))
      clear h2
      go_wp2_with fail
      go_ret
      exact ⟨ret_int H2.out.symm, by rw [H3.out]; exact C3.out, O3.out⟩
    | false =>
      have h2 : addE M ⟨c, k, s⟩ = if 64 ≤ M.length then 7 else 0 := H1.out.trans (if_neg (by decide))
      have hnn := HSN.out.2 rfl
      by_cases h64 : 64 ≤ M.length
      · rw [if_pos h64] at h2
        have H2 := hide h2
        have H3 := hide (HAM.out (show addE M ⟨c, k, s⟩ ≠ 0 by rw [h2]; decide))
        have hc64 : (64 : Int) ≤ (M.length : Int) := by omega
        clear h2 hnn h64
        go_wp2_with (at_len; refine wpList_mapLen v1 rfl _ 67 rfl 3 31 Try.underlying67 bm M.length M.length f rfl HM.out ?_)
        go_ret
        exact ⟨ret_int H2.out.symm, by rw [H3.out]; exact C3.out, O3.out⟩
      · rw [if_neg h64] at h2
        have H2 := hide h2
        have H3 := hide (HAD.out h2)
        have hri := HRI.out hnn
        have hge := HGE.out hnn
        have HRI2 := hide hri
        have HGE2 := hide hge
        have HNN := hide hnn
        have hc64 : ¬ (64 : Int) ≤ (M.length : Int) := by omega
        have H64 := hide h64
        clear h2 hri hge hnn h64 HRI HGE HSN HAD H1 HAM
        have hmn : ∀ W, (binOp BinOp.eql 67 (.map (some bm)) (.map none)).run Try.prog W = .ok (.bool false) W := fun W => by kernel_rfl
        go_upto_region 12 with (at_len; refine wpList_mapLen v1 rfl _ 67 rfl 3 31 Try.underlying67 bm M.length M.length f rfl HM.out ?_)
        have f0 : v1.cell? ⟨q, 0, none⟩ = some (.int .i64 c) := cell_of_block X3.out 0
        have f1 : v1.cell? ⟨q, 1, none⟩ = some (.int .u8 k) := cell_of_block X3.out 1
        have f2 : v1.cell? ⟨q, 2, none⟩ = some (.string s) := cell_of_block X3.out 2
        go_still_tail 7, (by kernel_rfl)
        change wpList _ _ _ _ _ v1.drew
        refine wpList_mapStore v1.drew rfl _ _ _ 67 rfl 3 31 Keyed_int Try.underlying67 bm M.length M.length f rfl (HM.out.kept rfl) (by have := HFEW.out; unfold maxLen; omega) (.int .i64 c) (.agg #[.int .i64 c, .int .u8 k, .string s]) (.int .i64 c) rfl rfl (key_int HK.out) (by trivial) ?_
        intro w4 hm4 hg4
        have hfn : f (.int .i64 c) = none := by rw [HF.out c HK.out, HNN.out]; rfl
        rw [hfn] at hm4
        have O4 := hide (O3.out.drew.trans (only_of_grown hg4))
        have C4 := hide (show ChartIs w4 p bm (insA M ⟨c, k, s⟩) from ⟨((only_of_grown hg4).block _ (heap_lt C3.out.head) C3.out.ne).trans C3.out.head, ⟨_, by rw [insA_length]; exact hm4, fun j hj => by
            rw [HGE2.out j]
            show (if (Lit.int .i64 j).sameKey (.int .i64 c) = true then _ else _) = _
            have hsk : (Lit.int .i64 j).sameKey (.int .i64 c) = true ↔ j = c := by simp [Lit.sameKey]
            by_cases e : j = c
            · rw [if_pos (hsk.2 e), if_pos e]; rfl
            · rw [if_neg (fun h => e (hsk.1 h)), if_neg e, HF.out j hj]⟩, HRI2.out, (fun y hy => by
            rcases insA_mem.1 hy with rfl | hy
            · exact HXO.out
            · exact C3.out.ok y hy), by rw [insA_length]; have := H64.out; omega⟩)
        clear hm4 hg4 hfn
        go_wp2_with fail
        go_ret
        exact ⟨ret_int H2.out.symm, by rw [H3.out]; exact C4.out, O4.out⟩
end Go.Proofs.Ytehjhldijhoeeaa
