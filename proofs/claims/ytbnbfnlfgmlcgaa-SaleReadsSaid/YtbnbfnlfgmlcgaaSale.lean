/-
  Layer 25: a register in memory; right; New, Next; copies of lines.
-/
import Derived.Test.YtbnbfnlfgmlcgaaMSale
--import Derived.Test.Zdbg
namespace Go.Proofs.Ytbnbfnlfgmlcgaa
set_option linter.unusedSimpArgs false
set_option linter.unusedVariables false
open Go.RowKit Go.WideShapes Go.ChangeShapes Go.ChangeAt Go.Deep

theorem beq_dec (a b : Int) : (a == b) = decide (a = b) := by by_cases h : a = b <;> simp [h]
/-- lines in blocks of lines -/
def LnT (w : World) (a : Option Addr) (L : List LnM) : Prop := ∀ i, i < L.length → ∃ (b off : Nat) (c : Array Value) (fz : Nat × Nat), a = some ⟨b, off, none⟩ ∧ w.heap[b]? = some (.cells c 80 fz) ∧ c[off + i * 2]? = some (.int .i64 (L.getD i ln0).c) ∧ c[off + i * 2 + 1]? = some (.int .i64 (L.getD i ln0).n)
theorem LnT.lnIn {w : World} {a : Option Addr} {L : List LnM} (h : LnT w a L) : LnIn w a L := fun i hi => by
  obtain ⟨b, off, c, fz, ha, hb, h1, h2⟩ := h i hi
  exact ⟨b, off, ha, heap_lt hb, (cell_of_block hb _).trans h1, (cell_of_block hb _).trans h2⟩
theorem LnT.keepsT {Ts : List TypeId} {w w' : World} {a : Option Addr} {L : List LnM} (h : LnT w a L) (hk : KeepsT Ts w w') (ht : 80 ∉ Ts) : LnT w' a L := fun i hi => by
  obtain ⟨b, off, c, fz, ha, hb, h1, h2⟩ := h i hi
  exact ⟨b, off, c, fz, ha, hk.cells hb ht, h1, h2⟩
theorem LnT.below {w w' : World} {a : Option Addr} {L : List LnM} (h : LnT w a L) (hb : Below w.heap.size w w') : LnT w' a L := fun i hi => by
  obtain ⟨b, off, c, fz, ha, hbk, h1, h2⟩ := h i hi
  exact ⟨b, off, c, fz, ha, (hb.block _ (heap_lt hbk)).trans hbk, h1, h2⟩
theorem LnT.drewN {w : World} {a : Option Addr} {L : List LnM} (h : LnT w a L) (n : Nat) : LnT (w.drewN n) a L := h
theorem LnT.nil (w : World) (a : Option Addr) : LnT w a [] := fun i hi => absurd hi (Nat.not_lt_zero i)
theorem LnT.of_owns {w : World} {B m c : Nat} {a : Option Addr} {L : List LnM} (h : w.ownsRow B 80 2 (.slice a m c) L.length (L.flatMap lnC)) : LnT w a L := fun i hi => by
  rcases h.2 with ⟨hv, hn⟩ | ⟨g, cap', cur, hv, hB, hg, hnc, _, hsz, hx⟩
  · omega
  · simp only [Value.slice.injEq] at hv
    obtain ⟨rfl, -, -⟩ := hv
    have hc : ∀ j, j < 2 → cur[i * 2 + j]? = (lnC (L.getD i ln0))[j]? := fun j hj => by
      rw [← flat_at lnC 2 lnC_length ln0 L i j hi hj, ← hx, List.getElem?_take, if_pos (by omega)]
      simp
    refine ⟨g, 0, cur, (0, 0), rfl, hg, ?_, ?_⟩
    · rw [Nat.zero_add]; exact hc 0 (by decide)
    · rw [Nat.zero_add]; exact hc 1 (by decide)
def SaleTs : List TypeId := [101, 35]
/-- a register in memory -/
structure RegAt (w : World) (B p : Nat) (keep next : Int) (v : Value) (T : List TxA) : Prop where
  head : w.heap[p]? = some (.cells #[.int .i64 keep, .int .i64 next, v] 101 (0, 0))
  row : OffRow w B 35 8 v T.length (T.flatMap txC)
  lines : ∀ x ∈ T, LnT w x.la x.t.L
  low : B ≤ p
  kp : 1 ≤ keep ∧ keep ≤ 512
  nx : 1 ≤ next ∧ next ≤ 4294967296
  few : (T.length : Int) ≤ keep ∧ (T.length : Int) ≤ next - 1
  ok : ∀ s ∈ T.map (·.t), KeptT s
  nums : NumsT (T.map (·.t)) next
theorem RegAt.below {w w' : World} {B p : Nat} {keep next : Int} {v : Value} {T : List TxA} (h : RegAt w B p keep next v T) (hb : Below w.heap.size w w') : RegAt w' B p keep next v T :=
  ⟨(hb.block _ (heap_lt h.head)).trans h.head, h.row.below hb, fun x hx => (h.lines x hx).below hb, h.low, h.kp, h.nx, h.few, h.ok, h.nums⟩
theorem RegAt.drewN {w : World} {B p : Nat} {keep next : Int} {v : Value} {T : List TxA} (h : RegAt w B p keep next v T) (n : Nat) : RegAt (w.drewN n) B p keep next v T :=
  ⟨h.head, h.row.drewN n, fun x hx => (h.lines x hx).drewN n, h.low, h.kp, h.nx, h.few, h.ok, h.nums⟩
theorem RegAt.keepsT {Ts : List TypeId} {w w' : World} {B p : Nat} {keep next : Int} {v : Value} {T : List TxA} (h : RegAt w B p keep next v T) (hk : KeepsT Ts w w') (h1 : 101 ∉ Ts) (h2 : 35 ∉ Ts) (h3 : 80 ∉ Ts) : RegAt w' B p keep next v T :=
  ⟨hk.cells h.head h1, h.row.keepsT hk h2, fun x hx => (h.lines x hx).keepsT hk h3, h.low, h.kp, h.nx, h.few, h.ok, h.nums⟩
set_option maxRecDepth 100000 in
theorem slnew_ok (k : Int) (h0 : 1 ≤ k) (h1 : k ≤ 512) (w : World) :
    Calls Try.prog 23 #[.int .i64 k] w fun e w' => ∃ p, e = .returned (.tuple #[.pointer (some ⟨p, 0, none⟩), .int .i64 0]) ∧ RegAt w' w.heap.size p k 1 (.slice none 0 0) [] ∧ Below w.heap.size w w' := by
  have g0 : ¬ k < 1 := by omega
  have g1 : ¬ 512 < k := by omega
  go_enter Try.func23, Try.ntmps23
  go_wp2_with fail
  go_ret2
  exact ⟨w.heap.size, rfl, ⟨heap_new w _, ⟨rfl, .inl ⟨rfl, rfl⟩⟩, (fun x hx => by cases hx), Nat.le_refl _, ⟨h0, h1⟩, by omega, by simp; omega, (fun s hs => by cases hs), fun i hi => absurd hi (Nat.not_lt_zero i)⟩, (Below.refl _ _).alloc (Nat.le_refl _) _⟩
set_option maxRecDepth 100000 in
theorem slnext_any (B p : Nat) (keep next : Int) (v : Value) (T : List TxA) (w : World) (h : RegAt w B p keep next v T) :
    Calls Try.prog 20 #[.pointer (some ⟨p, 0, none⟩)] w fun e w' => e = .returned (.int .i64 next) ∧ w = w' := by
  have c1 := cell_of_block h.head 1
  clear h
  go_enter Try.func20, Try.ntmps20
  go_wp2_with fail
  go_ret
  exact ⟨rfl, rfl⟩
set_option maxRecDepth 100000 in
theorem numbered_any (n : Int) (w : World) : Calls Try.prog 61 #[.int .i64 n] w fun e w' => e = .returned (.bool (numT n)) ∧ w = w' := by
  have hn : numT n = (decide (1 ≤ n) && decide (n ≤ 4294967295)) := by unfold numT; rw [Bool.decide_and]
  rw [hn]
  clear hn
  go_enter Try.func61, Try.ntmps61
  by_cases h : 1 ≤ n
  · go_wp2_with fail
    go_ret
    exact ⟨by simp [h]; try rfl, rfl⟩
  · have HH := hide (decide_eq_false h)
    go_wp2_with fail
    go_ret
    exact ⟨by rw [HH.out, Bool.false_and]; rfl, rfl⟩
set_option maxRecDepth 100000 in
theorem kback_any (k : Int) (w : World) : Calls Try.prog 41 #[.int .u8 k] w fun e w' => e = .returned (.bool (backT k)) ∧ w = w' := by
  have hn : backT k = (decide (k = 2) || decide (k = 3)) := by unfold backT; rw [Bool.decide_or]
  rw [hn]
  clear hn
  go_enter Try.func41, Try.ntmps41
  by_cases h : k = 2
  · subst h
    go_wp2_with fail
    go_ret
    exact ⟨rfl, rfl⟩
  · go_wp2_with fail
    go_ret
    exact ⟨by simp [h, beq_dec]; try rfl, rfl⟩
set_option maxRecDepth 100000 in
theorem right1_tells : Tells 63 #[] (fun x => !decide (0 ≤ x.c ∧ x.c ≤ 65535)) (fun _ => True) := by
  intro x w _
  obtain ⟨xc, xn⟩ := x
  show Calls Try.prog 63 #[.agg #[.int .i64 xc, .int .i64 xn]] w fun e w' => e = .returned (.bool (!decide (0 ≤ xc ∧ xc ≤ 65535))) ∧ Below w.heap.size w w'
  obtain ⟨bv, hbv⟩ : ∃ bv, (!decide (0 ≤ xc ∧ xc ≤ 65535)) = bv := ⟨_, rfl⟩
  rw [hbv]
  have HBV := hide hbv
  clear hbv
  go_enter Try.func63, Try.ntmps63
  by_cases h : xc < 0
  · have HH := hide (show bv = true by rw [← HBV.out, decide_eq_false (by omega)]; rfl)
    go_wp2_with fail
    go_ret
    exact ⟨by rw [HH.out]; rfl, (Below.refl _ _).alloc (Nat.le_refl _) _⟩
  · by_cases h2 : 65535 < xc
    · have HH := hide (show bv = true by rw [← HBV.out, decide_eq_false (by omega)]; rfl)
      go_wp2_with fail
      go_ret
      exact ⟨by rw [HH.out]; rfl, (Below.refl _ _).alloc (Nat.le_refl _) _⟩
    · have HH := hide (show bv = false by rw [← HBV.out, decide_eq_true (by omega)]; rfl)
      go_wp2_with fail
      go_ret
      exact ⟨by rw [HH.out]; rfl, (Below.refl _ _).alloc (Nat.le_refl _) _⟩
theorem any_acc (L : List LnM) : (L.any fun x => !decide (0 ≤ x.c ∧ x.c ≤ 65535)) = !(L.all fun x => decide (0 ≤ x.c ∧ x.c ≤ 65535)) := by
  induction L with
  | nil => rfl
  | cons x L ih => rw [List.any_cons, List.all_cons, ih, Bool.not_and]
set_option maxRecDepth 100000 in
theorem contains_acc (L : List LnM) (hL : L.length ≤ 1000) (a : Option Addr) (cap : Nat) (w : World) (hin : LnIn w a L) :
    Calls Try.prog 62 #[.slice a L.length cap, .func (.func 63) #[] #[]] w fun e w' => e = .returned (.bool (!(L.all fun x => decide (0 ≤ x.c ∧ x.c ≤ 65535)))) ∧ Below w.heap.size w w' := by
  have HT := hide (indexFunc_with 63 (enters Try.func63 (by kernel_rfl) rfl) #[] _ _ w (fun _ _ _ _ _ => trivial) right1_tells L hL a cap hin trivial)
  go_enter Try.func62, Try.ntmps62
  go_wp2_with fail
  refine HT.out.mono ?_
  rintro e w1 ⟨r, rfl, hr, hb⟩
  have HB := hide hb
  have hq : (0 ≤ r) = ((L.any fun x => !decide (0 ≤ x.c ∧ x.c ≤ 65535)) = true) := propext hr
  have HQ := hide (show decide (0 ≤ r) = !(L.all fun x => decide (0 ≤ x.c ∧ x.c ≤ 65535)) from by
    rw [← any_acc]
    cases hz : (L.any fun x => !decide (0 ≤ x.c ∧ x.c ≤ 65535)) with
    | true => rw [hz] at hq; exact decide_eq_true (by rw [hq])
    | false => rw [hz] at hq; exact decide_eq_false (by rw [hq]; decide))
  clear hb hr hq HT
  go_wp2_with fail
  go_ret
  exact ⟨by rw [← HQ.out]; rfl, HB.out⟩
set_option maxRecDepth 100000 in
set_option maxHeartbeats 1000000 in
theorem slright_any (x : TxA) (hx : TxOk x.t) (w : World) (hin : LnIn w x.la x.t.L) :
    Calls Try.prog 40 #[txV x] w fun e w' => e = .returned (.bool (rightT x.t)) ∧ Below w.heap.size w w' := by
  obtain ⟨⟨num, kind, shift, ref, amt, left, void, L⟩, la, lc⟩ := x
  have hk0 := hx.kind
  have hfw := hx.few
  dsimp only at hk0 hfw hin
  unfold txV txC
  dsimp only
  obtain ⟨ob, hob⟩ : ∃ ob, ob = (Obj.cells #[.int .i64 num, .int .u8 kind, .int .i64 shift, .int .i64 ref, .int .i64 amt, .int .i64 left, .bool void, .slice la L.length lc] 35) := ⟨_, rfl⟩
  have hal := (Below.refl w.heap.size w).alloc (Nat.le_refl _) ob
  have X1 := hide (show (w.alloc ob).heap[w.heap.size]? = some (.cells #[.int .i64 num, .int .u8 kind, .int .i64 shift, .int .i64 ref, .int .i64 amt, .int .i64 left, .bool void, .slice la L.length lc] 35 (0, 0)) by rw [heap_new, hob])
  have BW := hide hal
  have HCO := hide (contains_acc L hfw la lc (w.alloc ob) (hin.below hal))
  have HNS := hide (fun W => numbered_any shift W)
  have HNR := hide (fun W => numbered_any ref W)
  have HBK := hide (fun W => kback_any kind W)
  have HR := hide (show rightT ⟨num, kind, shift, ref, amt, left, void, L⟩ = (decide (1 ≤ kind ∧ kind ≤ 6) && (numT shift && (decide (L.length ≤ 8) && ((if backT kind = true then numT ref else decide (ref = 0)) && ((if kind = 6 then decide (amt = 0) else decide (1 ≤ amt ∧ amt ≤ 4611686018427387904)) && (L.all fun x => decide (0 ≤ x.c ∧ x.c ≤ 65535))))))) from rfl)
  generalize (L.all fun x => decide (0 ≤ x.c ∧ x.c ≤ 65535)) = ac at *
  clear hal hin hx
  go_enter Try.func40, Try.ntmps40
  go_upto_region 1 with (fail)
  rw [← hob]
  generalize w.alloc ob = w1 at *
  generalize hq : w.heap.size = q at *
  have HQ := hide hq
  clear hob ob hq
  have c1 := cell_of_block X1.out 1
  have c2 := cell_of_block X1.out 2
  have c3 := cell_of_block X1.out 3
  have c4 := cell_of_block X1.out 4
  have c7 := cell_of_block X1.out 7
  by_cases hk1 : kind < 1
  · have HE := hide (show rightT ⟨num, kind, shift, ref, amt, left, void, L⟩ = false by rw [HR.out, decide_eq_false (by omega)]; rfl)
    go_wp2_with fail
    go_ret
    exact ⟨by rw [HE.out]; rfl, by rw [HQ.out]; exact BW.out⟩
  by_cases hk6 : 6 < kind
  · have HE := hide (show rightT ⟨num, kind, shift, ref, amt, left, void, L⟩ = false by rw [HR.out, decide_eq_false (by omega)]; rfl)
    go_wp2_with fail
    go_ret
    exact ⟨by rw [HE.out]; rfl, by rw [HQ.out]; exact BW.out⟩
  rw [decide_eq_true (show 1 ≤ kind ∧ kind ≤ 6 by omega), Bool.true_and] at HR
  go_wp2_with fail
  refine (HNS.out _).mono ?_
  rintro e w2 ⟨rfl, rfl⟩
  clear HNS
  cases hns : numT shift with
  | false =>
    have HE := hide (show rightT ⟨num, kind, shift, ref, amt, left, void, L⟩ = false by rw [HR.out, hns]; rfl)
    clear hns
    go_wp2_with fail
    go_ret
    exact ⟨by rw [HE.out]; rfl, by rw [HQ.out]; exact BW.out⟩
  | true =>
  rw [hns, Bool.true_and] at HR
  clear hns
  by_cases hl8 : (8 : Int) < (L.length : Int)
  · have HE := hide (show rightT ⟨num, kind, shift, ref, amt, left, void, L⟩ = false by rw [HR.out, decide_eq_false (by omega)]; rfl)
    go_wp2_with fail
    go_ret
    exact ⟨by rw [HE.out]; rfl, by rw [HQ.out]; exact BW.out⟩
  rw [decide_eq_true (show L.length ≤ 8 by omega), Bool.true_and] at HR
  have hd8 : decide ((8 : Int) < (L.length : Int)) = false := decide_eq_false hl8
  go_wp2_with fail
  refine (HBK.out _).mono ?_
  rintro e w2 ⟨rfl, rfl⟩
  cases hbk : backT kind with
  | true =>
    rw [hbk, if_pos rfl] at HR
    go_wp2_with fail
    refine (HNR.out _).mono ?_
    rintro e w2 ⟨rfl, rfl⟩
    cases hnr : numT ref with
    | false =>
      rw [hnr] at HR
      have HE := hide (show rightT ⟨num, kind, shift, ref, amt, left, void, L⟩ = false by rw [HR.out]; rfl)
      go_wp2_with fail
      go_ret
      exact ⟨by rw [HE.out]; rfl, by rw [HQ.out]; exact BW.out⟩
    | true =>
      rw [hnr, Bool.true_and] at HR
      go_wp2_with fail
      refine (HBK.out _).mono ?_
      rintro e w2 ⟨rfl, rfl⟩
      rw [hbk]
      clear hbk hnr
      by_cases hk : kind = 6
      · rw [if_pos hk] at HR
        by_cases ha : amt = 0
        · rw [decide_eq_true ha] at HR
          rw [Bool.true_and] at HR
          go_wp2_with fail
          refine HCO.out.mono ?_
          rintro e w3 ⟨rfl, hb⟩
          have B3 := hide (BW.out.trans (hb.mono (by have := heap_lt X1.out; omega)))
          clear hb
          go_wp2_with fail
          go_ret
          exact ⟨by rw [HR.out]; simp, by rw [HQ.out]; exact B3.out⟩
        · rw [decide_eq_false ha] at HR
          have HE := hide (show rightT ⟨num, kind, shift, ref, amt, left, void, L⟩ = false by rw [HR.out]; rfl)
          go_wp2_with fail
          go_ret
          exact ⟨by rw [HE.out]; rfl, by rw [HQ.out]; exact BW.out⟩
      · rw [if_neg hk] at HR
        by_cases ha : amt < 1
        · rw [decide_eq_false (show ¬ (1 ≤ amt ∧ amt ≤ 4611686018427387904) by omega)] at HR
          have HE := hide (show rightT ⟨num, kind, shift, ref, amt, left, void, L⟩ = false by rw [HR.out]; rfl)
          go_wp2_with fail
          go_ret
          exact ⟨by rw [HE.out]; rfl, by rw [HQ.out]; exact BW.out⟩
        by_cases hm : 4611686018427387904 < amt
        · rw [decide_eq_false (show ¬ (1 ≤ amt ∧ amt ≤ 4611686018427387904) by omega)] at HR
          have HE := hide (show rightT ⟨num, kind, shift, ref, amt, left, void, L⟩ = false by rw [HR.out]; rfl)
          go_wp2_with fail
          go_ret
          exact ⟨by rw [HE.out]; rfl, by rw [HQ.out]; exact BW.out⟩
        rw [decide_eq_true (show 1 ≤ amt ∧ amt ≤ 4611686018427387904 by omega)] at HR
        rw [Bool.true_and] at HR
        go_wp2_with fail
        refine HCO.out.mono ?_
        rintro e w3 ⟨rfl, hb⟩
        have B3 := hide (BW.out.trans (hb.mono (by have := heap_lt X1.out; omega)))
        clear hb
        go_wp2_with fail
        go_ret
        exact ⟨by rw [HR.out]; simp, by rw [HQ.out]; exact B3.out⟩
  | false =>
    rw [hbk, if_neg (by decide)] at HR
    go_wp2_with fail
    refine (HBK.out _).mono ?_
    rintro e w2 ⟨rfl, rfl⟩
    rw [hbk]
    clear hbk
    by_cases hr0 : ref = 0
    · rw [decide_eq_true hr0, Bool.true_and] at HR
      by_cases hk : kind = 6
      · rw [if_pos hk] at HR
        by_cases ha : amt = 0
        · rw [decide_eq_true ha] at HR
          rw [Bool.true_and] at HR
          go_wp2_with fail
          refine HCO.out.mono ?_
          rintro e w3 ⟨rfl, hb⟩
          have B3 := hide (BW.out.trans (hb.mono (by have := heap_lt X1.out; omega)))
          clear hb
          go_wp2_with fail
          go_ret
          exact ⟨by rw [HR.out]; simp, by rw [HQ.out]; exact B3.out⟩
        · rw [decide_eq_false ha] at HR
          have HE := hide (show rightT ⟨num, kind, shift, ref, amt, left, void, L⟩ = false by rw [HR.out]; rfl)
          go_wp2_with fail
          go_ret
          exact ⟨by rw [HE.out]; rfl, by rw [HQ.out]; exact BW.out⟩
      · rw [if_neg hk] at HR
        by_cases ha : amt < 1
        · rw [decide_eq_false (show ¬ (1 ≤ amt ∧ amt ≤ 4611686018427387904) by omega)] at HR
          have HE := hide (show rightT ⟨num, kind, shift, ref, amt, left, void, L⟩ = false by rw [HR.out]; rfl)
          go_wp2_with fail
          go_ret
          exact ⟨by rw [HE.out]; rfl, by rw [HQ.out]; exact BW.out⟩
        by_cases hm : 4611686018427387904 < amt
        · rw [decide_eq_false (show ¬ (1 ≤ amt ∧ amt ≤ 4611686018427387904) by omega)] at HR
          have HE := hide (show rightT ⟨num, kind, shift, ref, amt, left, void, L⟩ = false by rw [HR.out]; rfl)
          go_wp2_with fail
          go_ret
          exact ⟨by rw [HE.out]; rfl, by rw [HQ.out]; exact BW.out⟩
        rw [decide_eq_true (show 1 ≤ amt ∧ amt ≤ 4611686018427387904 by omega)] at HR
        rw [Bool.true_and] at HR
        go_wp2_with fail
        refine HCO.out.mono ?_
        rintro e w3 ⟨rfl, hb⟩
        have B3 := hide (BW.out.trans (hb.mono (by have := heap_lt X1.out; omega)))
        clear hb
        go_wp2_with fail
        go_ret
        exact ⟨by rw [HR.out]; simp, by rw [HQ.out]; exact B3.out⟩
    · rw [decide_eq_false hr0] at HR
      have HE := hide (show rightT ⟨num, kind, shift, ref, amt, left, void, L⟩ = false by rw [HR.out]; rfl)
      go_wp2_with fail
      go_ret
      exact ⟨by rw [HE.out]; rfl, by rw [HQ.out]; exact BW.out⟩
end Go.Proofs.Ytbnbfnlfgmlcgaa
