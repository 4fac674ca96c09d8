/-
  Layer 15's laws: laid.
-/
import Derived.Test.YtpgogdnjddeagaaMVic
import Derived.BigRegion
--import Derived.Test.Zdbg
namespace Go.Proofs.Ytpgogdnjddeagaa
set_option linter.unusedSimpArgs false
set_option linter.unusedVariables false
open Go.RowKit Go.WideShapes Go.ChangeShapes Go.ChangeAt Go.Deep W

def BqOk (x : BQ) : Prop := (-9223372036854775808 ≤ x.st ∧ x.st ≤ 9223372036854775807) ∧ (-9223372036854775808 ≤ x.we ∧ x.we ≤ 9223372036854775807) ∧ (-9223372036854775808 ≤ x.li ∧ x.li ≤ 9223372036854775807)
theorem set_two (R : List (Int × Int)) (k : Nat) (hk : k < R.length) (u v : Int) : (R.set k (u, (R.getD k (0, 0)).2)).set k (((R.set k (u, (R.getD k (0, 0)).2)).getD k (0, 0)).1, v) = R.set k (u, v) := by
  rw [List.set_set]
  congr 2
  simp [List.getD, hk]
theorem set_owt (R : List (Int × Int)) (k : Nat) (hk : k < R.length) (u v : Int) : (R.set k ((R.getD k (0, 0)).1, v)).set k (u, ((R.set k ((R.getD k (0, 0)).1, v)).getD k (0, 0)).2) = R.set k (u, v) := by
  rw [List.set_set]
  congr 2
  simp [List.getD, hk]
theorem cell_live {w : World} {b : Nat} {LV : List Value} (h : w.heap[b]? = some (.cells LV.toArray 3 (0, 0))) (k : Nat) (hk : k < LV.length) : ∃ v, w.cell? ⟨b, k, none⟩ = some v :=
  ⟨LV[k], by rw [cell_of_block h, List.getElem?_toArray, List.getElem?_eq_getElem hk]⟩
theorem results_tmp5 {fn : Func} {t u v x y : Tmp} (h : fn.results = #[.tmp t, .tmp u, .tmp v, .tmp x, .tmp y]) (tmps : Array Value) (P : Program) (w : World) :
    (results fn tmps).run P w = .ok (.tuple #[tmps.getD t undef, tmps.getD u undef, tmps.getD v undef, tmps.getD x undef, tmps.getD y undef]) w := by
  simp [results, h]
set_option maxRecDepth 100000 in
set_option maxHeartbeats 2000000 in
theorem laid_any (a : Option Addr) (L : List BQ) (cap mm n : Nat) (hmm : mm = min L.length 20) (hnn : n = max 1 mm) (hcap : L.length ≤ cap) (h63 : L.length ≤ 9223372036854775807) (hok : ∀ x ∈ L, BqOk x) (w : World) (hin : BqIn w a L) :
    Calls Try.prog 6 #[.slice a L.length cap] w fun e w' => ∃ (a1 a2 a3 p q m q' o l r s t : Nat) (S : Spots), e = .returned (.tuple #[.pointer (some ⟨p, 0, none⟩), .pointer (some ⟨m, 0, none⟩), .pointer (some ⟨r, 0, none⟩), .slice (some ⟨a3, 0, none⟩) n n, .bool true]) ∧ LaidAt w' w.heap.size a1 a2 a3 p q m q' o l r s t (poolK L n mm) n S (poolK L n mm) (livV L n mm) ∧ lvZ S n = livZ L mm ∧ Below w.heap.size w w' := by
  have HIN := hide hin
  have HOK := hide hok
  clear hin hok
  have hm1 : mm ≤ L.length := by omega
  have hm2 : mm ≤ 20 := by omega
  have hmF : (if (20 : Int) < (L.length : Int) then (20 : Int) else (L.length : Int)) = (mm : Int) := by split <;> omega
  have hmI : min (L.length : Int) 20 = (mm : Int) := by omega
  have hcI : (mm : Int) ≤ (cap : Int) := by omega
  have hn1 : 1 ≤ n := by omega
  have hn2 : n ≤ 20 := by omega
  have hmn : mm ≤ n := by omega
  have hxF : (if (mm : Int) > 1 then (mm : Int) else 1) = (n : Int) := by split <;> omega
  have hxI : max 1 (mm : Int) = (n : Int) := by omega
  clear hmm hnn
  have HPN := hide (fun W => new_yes n hn1 (by omega) W)
  have HWN := hide (fun W => newW_yes n 8 (n * 8) hn1 (by omega) (by omega) (by omega) (by omega) (by omega) W)
  rw [show ((n * 8 : Nat) : Int) = (n : Int) * 8 by simp, show ((8 : Nat) : Int) = 8 from rfl] at HWN
  have HRN := hide (fun W => rnew_any n (by omega) W)
  have hmk := fun W => make_live n (by omega) W
  go_enter Try.func6, Try.ntmps6
  go_wp2_with fail
  refine (HPN.out _).mono ?_
  rintro e w1 ⟨rfl, hp, hb⟩
  have hlt1 := heap_lt hp.head
  have hlt2 := heap_lt hp.row
  have P1 := hide hp
  have O1 := hide (show w.heap.size ≤ w.heap.size + 1 ∧ w.heap.size ≤ w.heap.size ∧ w.heap.size + 1 < w1.heap.size ∧ w.heap.size < w1.heap.size from ⟨by omega, by omega, hlt1, hlt2⟩)
  have B1 := hide hb
  clear hp hb HPN hlt1 hlt2
  obtain ⟨p, hpe⟩ : ∃ p, p = w.heap.size + 1 := ⟨_, rfl⟩
  obtain ⟨q, hqe⟩ : ∃ q, q = w.heap.size := ⟨_, rfl⟩
  have P1 := hide (show PoolAt w1 p q (List.replicate n (1, 0)) by rw [hpe, hqe]; exact P1.out)
  have O1 := hide (show w.heap.size ≤ p ∧ w.heap.size ≤ q ∧ p < w1.heap.size ∧ q < w1.heap.size by rw [hpe, hqe]; exact O1.out)
  rw [← hpe]
  clear hpe hqe
  go_wp2_with fail
  refine (HWN.out _).mono ?_
  rintro e w2 ⟨m, q', o, l, rfl, hm, hb, g1, g2, g3, g4⟩
  have M2 := hide hm
  have P2 := hide (P1.out.below hb)
  have hl2 := hm.lt
  have O2 := hide (show w1.heap.size ≤ m ∧ w1.heap.size ≤ q' ∧ w1.heap.size ≤ o ∧ w1.heap.size ≤ l ∧ m < w2.heap.size ∧ q' < w2.heap.size ∧ o < w2.heap.size ∧ l < w2.heap.size from ⟨g1, g2, g3, g4, hl2.1, hl2.2.1, hl2.2.2.1, hl2.2.2.2⟩)
  have B2 := hide (B1.out.trans (hb.mono B1.out.size))
  clear hm hb g1 g2 g3 g4 P1 B1 HWN hl2
  go_wp2_with fail
  refine (HRN.out _).mono ?_
  rintro e w3 ⟨r, s, t, rfl, hr, g1, g2, g3, hb⟩
  have R3 := hide hr
  have P3 := hide (P2.out.below hb)
  have M3 := hide (M2.out.below hb)
  have O3 := hide (show w2.heap.size ≤ r ∧ w2.heap.size ≤ s ∧ w2.heap.size ≤ t ∧ r < w3.heap.size ∧ s < w3.heap.size ∧ t < w3.heap.size from ⟨g1, g2, g3, heap_lt hr.head, heap_lt hr.st, heap_lt hr.we⟩)
  have B3 := hide (B2.out.trans (hb.mono B2.out.size))
  clear hr hb g1 g2 g3 P2 M2 B2 HRN
  go_wp2_with fail
  obtain ⟨oa, hoa⟩ : ∃ oa, oa = Obj.cells (Array.replicate n (Value.int .i64 0)) 3 := ⟨_, rfl⟩
  try rw [← hoa]
  have hal := (Below.refl w3.heap.size w3).alloc (Nat.le_refl _) oa
  have LL := hide (show LaidAt (w3.alloc oa) w.heap.size w1.heap.size w2.heap.size w3.heap.size p q m q' o l r s t (poolK L n 0) n (List.replicate (n * 8) none) (poolK L n 0) (livV L n 0) from by
    unfold poolK livV
    rw [genK_zero, genK_zero]
    exact ⟨P3.out.below hal, M3.out.below hal, R3.out.below hal, by rw [heap_new, hoa]; simp, O1.out, O2.out, O3.out⟩)
  have B4 := hide (B3.out.trans (hal.mono B3.out.size))
  have SP := hide (spI_first (n * 8) L)
  clear hal hmk P3 M3 R3 B3 O1 O2 O3 hoa
  generalize w3.alloc oa = w4 at *
  generalize w1.heap.size = a1 at *
  generalize w2.heap.size = a2 at *
  generalize w3.heap.size = a3 at *
  generalize List.replicate (n * 8) none = S0 at *
  go_loopw [14, 44] (fun c i W => ∃ (k cur : Nat) (S : Spots), k ≤ mm ∧ c = .int .i64 cur ∧ i = .int .i64 k ∧ SpI S (n * 8) cur k 0 L ∧ LaidAt W w.heap.size a1 a2 a3 p q m q' o l r s t (poolK L n k) n S (poolK L n k) (livV L n k) ∧ Below w.heap.size w W) (fun _ i _ => mm - (intOf i).toNat)
  case atStart => exact ⟨0, 0, _, by omega, rfl, rfl, SP.out, LL.out, B4.out⟩
  case round =>
    clear SP LL B4 S0
    obtain ⟨k, cur, S, hk, rfl, rfl, hsp, hl, hb⟩ := hrel
    have SP := hide hsp
    have LL := hide hl
    have BL := hide hb
    clear hsp hl hb
    by_cases hlt : k < mm
    · obtain ⟨b, off, rfl, hbl, c0, c1, c2⟩ := (HIN.out.below BL.out) k (by omega)
      have hx := HOK.out _ (show L.getD k bq0 ∈ L by simp [List.getD, show k < L.length by omega])
      have hst1 := hide (show toP (L.getD k bq0) = (1 + max 0 (L.getD k bq0).st % 3, max 0 (L.getD k bq0).we % 1000) from rfl)
      have hli1 := hide (show ((toN (L.getD k bq0) : Nat) : Int) = max 0 (L.getD k bq0).li % 8 by unfold toN; omega)
      have hnx := hide (fun (β : Type) (f : BQ → β) (z : β) => genK_next f z L n k (by omega) (by omega))
      generalize hX : L.getD k bq0 = x at *
      have HX := hide hX
      clear hX
      obtain ⟨xd, xw, xl⟩ := x
      obtain ⟨⟨d0, d1⟩, ⟨e0, e1⟩, ⟨f0, f1⟩⟩ := hx
      dsimp only at *
      obtain ⟨xm, hxmF, hxmI, hxm0⟩ : ∃ u : Int, (if 0 < xd then xd else 0) = u ∧ max 0 xd = u ∧ 0 ≤ u := ⟨max 0 xd, by split <;> omega, rfl, by omega⟩
      obtain ⟨wm, hwmF, hwmI, hwm0⟩ : ∃ u : Int, (if 0 < xw then xw else 0) = u ∧ max 0 xw = u ∧ 0 ≤ u := ⟨max 0 xw, by split <;> omega, rfl, by omega⟩
      obtain ⟨lm, hlmF, hlmI, hlm0⟩ : ∃ u : Int, (if 0 < xl then xl else 0) = u ∧ max 0 xl = u ∧ 0 ≤ u := ⟨max 0 xl, by split <;> omega, rfl, by omega⟩
      rw [hxmI, hwmI] at hst1
      rw [hlmI] at hli1
      obtain ⟨su, hsT, hsI, hs0, hs3⟩ : ∃ u : Int, xm.tmod 3 = u ∧ xm % 3 = u ∧ 0 ≤ u ∧ u ≤ 2 := ⟨xm % 3, Int.tmod_eq_emod_of_nonneg hxm0, rfl, by omega, by omega⟩
      obtain ⟨wu, hwT, hwI, hw0, hw3⟩ : ∃ u : Int, wm.tmod 1000 = u ∧ wm % 1000 = u ∧ 0 ≤ u ∧ u ≤ 999 := ⟨wm % 1000, Int.tmod_eq_emod_of_nonneg hwm0, rfl, by omega, by omega⟩
      obtain ⟨lu, hlT, hlI, hl8⟩ : ∃ u : Nat, lm.tmod 8 = (u : Int) ∧ lm % 8 = (u : Int) ∧ u ≤ 7 := ⟨(lm % 8).toNat, by rw [Int.tmod_eq_emod_of_nonneg hlm0]; omega, by omega, by omega⟩
      have hws : IntKind.i64.wrap (1 + su) = 1 + su := by rw [IntKind.wrap_i64]; omega
      have hws2 : IntKind.i64.wrap su = su := by rw [IntKind.wrap_i64]; omega
      have hww : IntKind.i64.wrap wu = wu := by rw [IntKind.wrap_i64]; omega
      have hwl : IntKind.i64.wrap (lu : Int) = (lu : Int) := by rw [IntKind.wrap_i64]; omega
      rw [hsI, hwI] at hst1
      rw [hlI] at hli1
      have LK := hide (genK_length toP (1, 0) L n k (by omega) (by omega))
      rw [show genK toP (1, 0) L n k = poolK L n k from rfl] at LK
      go_upto_region 11 with (fail)
      obtain ⟨ob, hob⟩ : ∃ ob, ob = (Obj.cells #[.int .i64 xd, .int .i64 xw, .int .i64 xl] 53) := ⟨_, rfl⟩
      rw [← hob]
      have hal := (Below.refl wr.heap.size wr).alloc (Nat.le_refl _) ob
      have XB := hide (heap_new wr ob)
      have LL5 := hide (LL.out.below hal)
      have B5 := hide (BL.out.trans (hal.mono BL.out.size))
      have HXB := hide (show s ≠ wr.heap.size ∧ t ≠ wr.heap.size ∧ a3 ≠ wr.heap.size from by have h1 := heap_lt LL.out.live; have h2 := heap_lt LL.out.ref.st; have h3 := heap_lt LL.out.ref.we; omega)
      have HXQ := hide (show q ≠ wr.heap.size from by have h1 := heap_lt LL.out.pool.row; omega)
      clear hal LL BL hbl c0 c1 c2
      generalize wr.alloc ob = w5 at *
      generalize wr.heap.size = xb at *
      rw [hob] at XB
      clear hob ob
      have c0 := cell_of_block XB.out 0
      have c1 := cell_of_block XB.out 1
      have c2 := cell_of_block XB.out 2
      obtain ⟨r0, r1⟩ := LL5.out.ref.cells
      obtain ⟨s0, t0, fs, ft⟩ := LL5.out.ref.at k (by rw [LK.out]; omega)
      rw [LK.out] at r0 r1
      have hkn : k < n := by omega
      have fl := frozen_of_block LL5.out.live k
      have l0 : w5.cell? ⟨a3, k, none⟩ = some (.int .i64 0) := by
        rw [cell_of_block LL5.out.live]
        have h1 := genK_at (fun x => Value.int .i64 (toN x : Int)) (.int .i64 0) L n k k (by omega) (by omega) hkn (.int .i64 0)
        have h2 := genK_length (fun x => Value.int .i64 (toN x : Int)) (.int .i64 0) L n k (by omega) (by omega)
        rw [if_neg (by omega)] at h1
        rw [List.getElem?_toArray]
        unfold livV
        rw [List.getD, List.getElem?_eq_getElem (by omega)] at h1
        rw [List.getElem?_eq_getElem (by omega)]
        exact congrArg some h1
      have p0 : (poolK L n k).getD k (0, 0) = (1, 0) := by
        have h1 := genK_at toP (1, 0) L n k k (by omega) (by omega) hkn (0, 0)
        rw [if_neg (by omega)] at h1
        exact h1
      rw [p0] at s0 t0
      dsimp only at s0 t0
      have n1 := LL5.out.ref.n3
      have n2 : t ≠ s := fun e => n1 e.symm
      have hord3 := LL5.out.ord3
      have n3 : s ≠ a3 := by omega
      have n4 : a3 ≠ s := by omega
      have n5 : t ≠ a3 := by omega
      have n6 : a3 ≠ t := by omega
      clear hord3
      have HNX := hide (show s ≠ xb ∧ t ≠ xb ∧ a3 ≠ xb from HXB.out)
      have HQX := hide (show q ≠ xb from HXQ.out)
      have HBX := hide (show w.heap.size ≤ s ∧ w.heap.size ≤ t ∧ w.heap.size ≤ a3 from by have h1 := LL5.out.ord1; have h2 := LL5.out.ord2; have h3 := LL5.out.ord3; omega)
      have HPK := hide (show (poolK L n k).set k (1 + su, wu) = poolK L n (k + 1) from by have h := hnx.out _ toP (1, 0); rw [hst1.out] at h; exact h)
      have HLV := hide (show (livV L n k).set k (.int .i64 (lu : Int)) = livV L n (k + 1) from by have h := hnx.out _ (fun x => Value.int .i64 (toN x : Int)) (.int .i64 0); rw [hli1.out] at h; exact h)
      have LV0 := hide (show (livV L n k).length = n from genK_length _ _ L n k (by omega) (by omega))
      have LN0 := LK
      have XB0 := hide (show w5.drew.heap[xb]? = _ from XB.out)
      have LA0 := hide LL5.out.drew
      have BB0 := hide B5.out.drew
      have R00 := hide (show w5.drew.cell? ⟨r, 0, none⟩ = _ from r0)
      have R10 := hide (show w5.drew.cell? ⟨r, 1, none⟩ = _ from r1)
      have r0 := R00.out
      have r1 := R10.out
      have cs : w5.drew.cell? ⟨s, k, none⟩ = _ := s0
      have ct : w5.drew.cell? ⟨t, k, none⟩ = _ := t0
      have cl : w5.drew.cell? ⟨a3, k, none⟩ = _ := l0
      have fs : w5.drew.frozen? ⟨s, k, none⟩ = false := fs
      have ft : w5.drew.frozen? ⟨t, k, none⟩ = false := ft
      have fl : w5.drew.frozen? ⟨a3, k, none⟩ = false := fl
      clear LL5 B5 XB c0 c1 c2 s0 t0 l0 hnx
      go_cut [] from 49 to 76 (fun wx => LaidAt wx w.heap.size a1 a2 a3 p q m q' o l r s t (poolK L n k) n S (poolK L n (k + 1)) (livV L n (k + 1)) ∧ wx.heap[xb]? = some (.cells #[.int .i64 xd, .int .i64 xw, .int .i64 xl] 53 (0, 0)) ∧ Below w.heap.size w wx)
      case first =>
        refine wp_region_held_drew (S := (fun W => W.cell? ⟨xb, 0, none⟩ = some (.int .i64 xd) ∧ W.cell? ⟨xb, 1, none⟩ = some (.int .i64 xw) ∧ W.cell? ⟨xb, 2, none⟩ = some (.int .i64 xl) ∧ W.cell? ⟨r, 0, none⟩ = some (.slice (some ⟨s, 0, none⟩) n n) ∧ W.cell? ⟨r, 1, none⟩ = some (.slice (some ⟨t, 0, none⟩) n n))) (by kernel_rfl) (⟨cell_of_block XB0.out 0, cell_of_block XB0.out 1, cell_of_block XB0.out 2, R00.out, R10.out⟩) (fun hHeld => ?_)
        generalize w5.drew = v0 at *
        refine wpAnyH_take (i := 0) (oi := { dst := some 49, op := Op.move (Operand.tmp 12), type := 26, pos := "law.go:29", after := #[], guard := none }) (v := ?_) rfl (by kernel_rfl) (by kernel_rfl) (by kernel_rfl) (fun _ _ _ h => h) (Or.inl ⟨by kernel_rfl, ?_⟩) hHeld ?_
        rotate_left
        · (intro w hSw; (try dsimp only at hSw); go_simp); try with_reducible rfl
        try simp only [Act.put, List.setIfInBounds_toArray, List.set_cons_zero, List.set_cons_succ]
        refine wpAnyH_take (i := 1) (oi := { dst := some 50, op := Op.nilCheck (Operand.tmp 49), type := 0, pos := "law.go:29", after := #[{ on := 0, ground := Ground.data }], guard := none }) (v := ?_) rfl (by kernel_rfl) (by kernel_rfl) (by kernel_rfl) (fun _ _ _ h => h) (Or.inl ⟨by kernel_rfl, ?_⟩) hHeld ?_
        rotate_left
        · (intro w hSw; (try dsimp only at hSw); go_simp); try with_reducible rfl
        try simp only [Act.put, List.setIfInBounds_toArray, List.set_cons_zero, List.set_cons_succ]
        refine wpAnyH_take (i := 2) (oi := { dst := some 51, op := Op.fieldAddr 55 (Operand.tmp 50) 0, type := 0, pos := "law.go:29", after := #[{ on := 1, ground := Ground.data }], guard := none }) (v := ?_) rfl (by kernel_rfl) (by kernel_rfl) (by kernel_rfl) (fun _ _ _ h => h) (Or.inl ⟨by kernel_rfl, ?_⟩) hHeld ?_
        rotate_left
        · (intro w hSw; (try dsimp only at hSw); go_simp); try with_reducible rfl
        try simp only [Act.put, List.setIfInBounds_toArray, List.set_cons_zero, List.set_cons_succ]
        refine wpAnyH_take (i := 3) (oi := { dst := some 52, op := Op.load 23 (Operand.tmp 51), type := 23, pos := "law.go:29", after := #[{ on := 2, ground := Ground.data }], guard := none }) (v := ?_) rfl (by kernel_rfl) (by kernel_rfl) (by kernel_rfl) (fun _ _ _ h => h) (Or.inl ⟨by kernel_rfl, ?_⟩) hHeld ?_
        rotate_left
        · (intro w hSw; (try dsimp only at hSw); go_simp); try with_reducible rfl
        try simp only [Act.put, List.setIfInBounds_toArray, List.set_cons_zero, List.set_cons_succ]
        refine wpAnyH_take (i := 4) (oi := { dst := some 53, op := Op.move (Operand.tmp 15), type := 3, pos := "law.go:29", after := #[], guard := none }) (v := ?_) rfl (by kernel_rfl) (by kernel_rfl) (by kernel_rfl) (fun _ _ _ h => h) (Or.inl ⟨by kernel_rfl, ?_⟩) hHeld ?_
        rotate_left
        · (intro w hSw; (try dsimp only at hSw); go_simp); try with_reducible rfl
        try simp only [Act.put, List.setIfInBounds_toArray, List.set_cons_zero, List.set_cons_succ]
        refine wpAnyH_take (i := 5) (oi := { dst := some 54, op := Op.move (Operand.tmp 12), type := 26, pos := "law.go:29", after := #[], guard := none }) (v := ?_) rfl (by kernel_rfl) (by kernel_rfl) (by kernel_rfl) (fun _ _ _ h => h) (Or.inl ⟨by kernel_rfl, ?_⟩) hHeld ?_
        rotate_left
        · (intro w hSw; (try dsimp only at hSw); go_simp); try with_reducible rfl
        try simp only [Act.put, List.setIfInBounds_toArray, List.set_cons_zero, List.set_cons_succ]
        refine wpAnyH_take (i := 6) (oi := { dst := some 55, op := Op.nilCheck (Operand.tmp 54), type := 0, pos := "law.go:29", after := #[{ on := 5, ground := Ground.data }], guard := none }) (v := ?_) rfl (by kernel_rfl) (by kernel_rfl) (by kernel_rfl) (fun _ _ _ h => h) (Or.inl ⟨by kernel_rfl, ?_⟩) hHeld ?_
        rotate_left
        · (intro w hSw; (try dsimp only at hSw); go_simp); try with_reducible rfl
        try simp only [Act.put, List.setIfInBounds_toArray, List.set_cons_zero, List.set_cons_succ]
        refine wpAnyH_take (i := 7) (oi := { dst := some 56, op := Op.fieldAddr 55 (Operand.tmp 55) 1, type := 0, pos := "law.go:29", after := #[{ on := 6, ground := Ground.data }], guard := none }) (v := ?_) rfl (by kernel_rfl) (by kernel_rfl) (by kernel_rfl) (fun _ _ _ h => h) (Or.inl ⟨by kernel_rfl, ?_⟩) hHeld ?_
        rotate_left
        · (intro w hSw; (try dsimp only at hSw); go_simp); try with_reducible rfl
        try simp only [Act.put, List.setIfInBounds_toArray, List.set_cons_zero, List.set_cons_succ]
        refine wpAnyH_take (i := 8) (oi := { dst := some 57, op := Op.load 23 (Operand.tmp 56), type := 23, pos := "law.go:29", after := #[{ on := 7, ground := Ground.data }], guard := none }) (v := ?_) rfl (by kernel_rfl) (by kernel_rfl) (by kernel_rfl) (fun _ _ _ h => h) (Or.inl ⟨by kernel_rfl, ?_⟩) hHeld ?_
        rotate_left
        · (intro w hSw; (try dsimp only at hSw); go_simp); try with_reducible rfl
        try simp only [Act.put, List.setIfInBounds_toArray, List.set_cons_zero, List.set_cons_succ]
        refine wpAnyH_take (i := 9) (oi := { dst := some 58, op := Op.move (Operand.tmp 15), type := 3, pos := "law.go:29", after := #[{ on := 26, ground := Ground.gcOnly Departure.lateStores }], guard := none }) (v := ?_) rfl (by kernel_rfl) (by kernel_rfl) (by kernel_rfl) (fun _ _ _ h => h) (Or.inl ⟨by kernel_rfl, ?_⟩) hHeld ?_
        rotate_left
        · (intro w hSw; (try dsimp only at hSw); go_simp); try with_reducible rfl
        try simp only [Act.put, List.setIfInBounds_toArray, List.set_cons_zero, List.set_cons_succ]
        refine wpAnyH_take (i := 10) (oi := { dst := some 59, op := Op.move (Operand.tmp 13), type := 23, pos := "law.go:29", after := #[{ on := 28, ground := Ground.gcOnly Departure.lateStores }], guard := none }) (v := ?_) rfl (by kernel_rfl) (by kernel_rfl) (by kernel_rfl) (fun _ _ _ h => h) (Or.inl ⟨by kernel_rfl, ?_⟩) hHeld ?_
        rotate_left
        · (intro w hSw; (try dsimp only at hSw); go_simp); try with_reducible rfl
        try simp only [Act.put, List.setIfInBounds_toArray, List.set_cons_zero, List.set_cons_succ]
        refine wpAnyH_take (i := 11) (oi := { dst := some 60, op := Op.move (Operand.tmp 15), type := 3, pos := "law.go:29", after := #[{ on := 28, ground := Ground.gcOnly Departure.lateStores }], guard := none }) (v := ?_) rfl (by kernel_rfl) (by kernel_rfl) (by kernel_rfl) (fun _ _ _ h => h) (Or.inl ⟨by kernel_rfl, ?_⟩) hHeld ?_
        rotate_left
        · (intro w hSw; (try dsimp only at hSw); go_simp); try with_reducible rfl
        try simp only [Act.put, List.setIfInBounds_toArray, List.set_cons_zero, List.set_cons_succ]
        refine wpAnyH_take (i := 12) (oi := { dst := some 61, op := Op.fieldAddr 53 (Operand.tmp 16) 0, type := 0, pos := "law.go:29", after := #[], guard := none }) (v := ?_) rfl (by kernel_rfl) (by kernel_rfl) (by kernel_rfl) (fun _ _ _ h => h) (Or.inl ⟨by kernel_rfl, ?_⟩) hHeld ?_
        rotate_left
        · (intro w hSw; (try dsimp only at hSw); go_simp); try with_reducible rfl
        try simp only [Act.put, List.setIfInBounds_toArray, List.set_cons_zero, List.set_cons_succ]
        refine wpAnyH_take (i := 13) (oi := { dst := some 62, op := Op.load 3 (Operand.tmp 61), type := 3, pos := "law.go:29", after := #[{ on := 12, ground := Ground.data }], guard := none }) (v := ?_) rfl (by kernel_rfl) (by kernel_rfl) (by kernel_rfl) (fun _ _ _ h => h) (Or.inl ⟨by kernel_rfl, ?_⟩) hHeld ?_
        rotate_left
        · (intro w hSw; (try dsimp only at hSw); go_simp); try with_reducible rfl
        try simp only [Act.put, List.setIfInBounds_toArray, List.set_cons_zero, List.set_cons_succ]
        refine wpAnyH_take (i := 14) (oi := { dst := some 63, op := Op.call { callee := Callee.builtin Builtin.max, args := #[Operand.const (Value.int IntKind.i64 0), Operand.tmp 62], argTypes := #[3, 3] }, type := 3, pos := "law.go:29", after := #[{ on := 13, ground := Ground.data }], guard := none }) (v := ?_) rfl (by kernel_rfl) (by kernel_rfl) (by kernel_rfl) (fun _ _ _ h => h) (Or.inl ⟨by kernel_rfl, ?_⟩) hHeld ?_
        rotate_left
        · (intro w hSw; (try dsimp only at hSw); go_simp); try with_reducible rfl
        try simp only [Act.put, List.setIfInBounds_toArray, List.set_cons_zero, List.set_cons_succ]
        refine wpAnyH_take (i := 15) (oi := { dst := some 64, op := Op.binOp BinOp.rem 3 (Operand.tmp 63) (Operand.const (Value.int IntKind.i64 3)) 3, type := 3, pos := "law.go:29", after := #[{ on := 14, ground := Ground.data }], guard := none }) (v := ?_) rfl (by kernel_rfl) (by kernel_rfl) (by kernel_rfl) (fun _ _ _ h => h) (Or.inl ⟨by kernel_rfl, ?_⟩) hHeld ?_
        rotate_left
        · (intro w hSw; (try dsimp only at hSw); go_simp); try with_reducible rfl
        try simp only [Act.put, List.setIfInBounds_toArray, List.set_cons_zero, List.set_cons_succ]
        refine wpAnyH_take (i := 16) (oi := { dst := some 65, op := Op.binOp BinOp.add 3 (Operand.const (Value.int IntKind.i64 1)) (Operand.tmp 64) 3, type := 3, pos := "law.go:29", after := #[{ on := 15, ground := Ground.data }], guard := none }) (v := ?_) rfl (by kernel_rfl) (by kernel_rfl) (by kernel_rfl) (fun _ _ _ h => h) (Or.inl ⟨by kernel_rfl, ?_⟩) hHeld ?_
        rotate_left
        · (intro w hSw; (try dsimp only at hSw); go_simp); try with_reducible rfl
        try simp only [Act.put, List.setIfInBounds_toArray, List.set_cons_zero, List.set_cons_succ]
        refine wpAnyH_take (i := 17) (oi := { dst := some 66, op := Op.fieldAddr 53 (Operand.tmp 16) 1, type := 0, pos := "law.go:29", after := #[], guard := none }) (v := ?_) rfl (by kernel_rfl) (by kernel_rfl) (by kernel_rfl) (fun _ _ _ h => h) (Or.inl ⟨by kernel_rfl, ?_⟩) hHeld ?_
        rotate_left
        · (intro w hSw; (try dsimp only at hSw); go_simp); try with_reducible rfl
        try simp only [Act.put, List.setIfInBounds_toArray, List.set_cons_zero, List.set_cons_succ]
        refine wpAnyH_take (i := 18) (oi := { dst := some 67, op := Op.load 3 (Operand.tmp 66), type := 3, pos := "law.go:29", after := #[{ on := 17, ground := Ground.data }], guard := none }) (v := ?_) rfl (by kernel_rfl) (by kernel_rfl) (by kernel_rfl) (fun _ _ _ h => h) (Or.inl ⟨by kernel_rfl, ?_⟩) hHeld ?_
        rotate_left
        · (intro w hSw; (try dsimp only at hSw); go_simp); try with_reducible rfl
        try simp only [Act.put, List.setIfInBounds_toArray, List.set_cons_zero, List.set_cons_succ]
        refine wpAnyH_take (i := 19) (oi := { dst := some 68, op := Op.call { callee := Callee.builtin Builtin.max, args := #[Operand.const (Value.int IntKind.i64 0), Operand.tmp 67], argTypes := #[3, 3] }, type := 3, pos := "law.go:29", after := #[{ on := 18, ground := Ground.data }], guard := none }) (v := ?_) rfl (by kernel_rfl) (by kernel_rfl) (by kernel_rfl) (fun _ _ _ h => h) (Or.inl ⟨by kernel_rfl, ?_⟩) hHeld ?_
        rotate_left
        · (intro w hSw; (try dsimp only at hSw); go_simp); try with_reducible rfl
        try simp only [Act.put, List.setIfInBounds_toArray, List.set_cons_zero, List.set_cons_succ]
        refine wpAnyH_take (i := 20) (oi := { dst := some 69, op := Op.binOp BinOp.rem 3 (Operand.tmp 68) (Operand.const (Value.int IntKind.i64 1000)) 3, type := 3, pos := "law.go:29", after := #[{ on := 19, ground := Ground.data }, { on := 26, ground := Ground.gcOnly Departure.lateStores }], guard := none }) (v := ?_) rfl (by kernel_rfl) (by kernel_rfl) (by kernel_rfl) (fun _ _ _ h => h) (Or.inl ⟨by kernel_rfl, ?_⟩) hHeld ?_
        rotate_left
        · (intro w hSw; (try dsimp only at hSw); go_simp); try with_reducible rfl
        try simp only [Act.put, List.setIfInBounds_toArray, List.set_cons_zero, List.set_cons_succ]
        refine wpAnyH_take (i := 21) (oi := { dst := some 70, op := Op.fieldAddr 53 (Operand.tmp 16) 2, type := 0, pos := "law.go:29", after := #[], guard := none }) (v := ?_) rfl (by kernel_rfl) (by kernel_rfl) (by kernel_rfl) (fun _ _ _ h => h) (Or.inl ⟨by kernel_rfl, ?_⟩) hHeld ?_
        rotate_left
        · (intro w hSw; (try dsimp only at hSw); go_simp); try with_reducible rfl
        try simp only [Act.put, List.setIfInBounds_toArray, List.set_cons_zero, List.set_cons_succ]
        refine wpAnyH_take (i := 22) (oi := { dst := some 71, op := Op.load 3 (Operand.tmp 70), type := 3, pos := "law.go:29", after := #[{ on := 21, ground := Ground.data }], guard := none }) (v := ?_) rfl (by kernel_rfl) (by kernel_rfl) (by kernel_rfl) (fun _ _ _ h => h) (Or.inl ⟨by kernel_rfl, ?_⟩) hHeld ?_
        rotate_left
        · (intro w hSw; (try dsimp only at hSw); go_simp); try with_reducible rfl
        try simp only [Act.put, List.setIfInBounds_toArray, List.set_cons_zero, List.set_cons_succ]
        refine wpAnyH_take (i := 23) (oi := { dst := some 72, op := Op.call { callee := Callee.builtin Builtin.max, args := #[Operand.const (Value.int IntKind.i64 0), Operand.tmp 71], argTypes := #[3, 3] }, type := 3, pos := "law.go:29", after := #[{ on := 22, ground := Ground.data }], guard := none }) (v := ?_) rfl (by kernel_rfl) (by kernel_rfl) (by kernel_rfl) (fun _ _ _ h => h) (Or.inl ⟨by kernel_rfl, ?_⟩) hHeld ?_
        rotate_left
        · (intro w hSw; (try dsimp only at hSw); go_simp); try with_reducible rfl
        try simp only [Act.put, List.setIfInBounds_toArray, List.set_cons_zero, List.set_cons_succ]
        refine wpAnyH_take (i := 24) (oi := { dst := some 73, op := Op.binOp BinOp.rem 3 (Operand.tmp 72) (Operand.const (Value.int IntKind.i64 8)) 3, type := 3, pos := "law.go:29", after := #[{ on := 23, ground := Ground.data }, { on := 28, ground := Ground.gcOnly Departure.lateStores }], guard := none }) (v := ?_) rfl (by kernel_rfl) (by kernel_rfl) (by kernel_rfl) (fun _ _ _ h => h) (Or.inl ⟨by kernel_rfl, ?_⟩) hHeld ?_
        rotate_left
        · (intro w hSw; (try dsimp only at hSw); go_simp); try with_reducible rfl
        try simp only [Act.put, List.setIfInBounds_toArray, List.set_cons_zero, List.set_cons_succ]
        refine wpAnyH_take (i := 25) (oi := { dst := some 74, op := Op.indexAddr 23 (Operand.tmp 52) (Operand.tmp 53), type := 0, pos := "law.go:29", after := #[{ on := 3, ground := Ground.data }, { on := 4, ground := Ground.data }, { on := 0, ground := Ground.phase }, { on := 1, ground := Ground.phase }, { on := 2, ground := Ground.phase }, { on := 3, ground := Ground.phase }, { on := 4, ground := Ground.phase }, { on := 5, ground := Ground.textOnly Departure.lateStores }, { on := 6, ground := Ground.textOnly Departure.lateStoresUnsure }, { on := 7, ground := Ground.textOnly Departure.lateStoresUnsure }, { on := 8, ground := Ground.phase }, { on := 9, ground := Ground.textOnly Departure.lateStores }, { on := 10, ground := Ground.textOnly Departure.lateStores }, { on := 11, ground := Ground.textOnly Departure.lateStores }, { on := 12, ground := Ground.phase }, { on := 13, ground := Ground.phase }, { on := 14, ground := Ground.phase }, { on := 15, ground := Ground.phase }, { on := 16, ground := Ground.phase }, { on := 17, ground := Ground.textOnly Departure.lateStores }, { on := 18, ground := Ground.textOnly Departure.lateStores }, { on := 19, ground := Ground.textOnly Departure.lateStoresUnsure }, { on := 20, ground := Ground.textOnly Departure.lateStores }, { on := 21, ground := Ground.textOnly Departure.lateStores }, { on := 22, ground := Ground.textOnly Departure.lateStores }, { on := 23, ground := Ground.textOnly Departure.lateStoresUnsure }, { on := 24, ground := Ground.textOnly Departure.lateStores }], guard := none }) (v := ?_) rfl (by kernel_rfl) (by kernel_rfl) (by kernel_rfl) (fun _ _ _ h => h) (Or.inl ⟨by kernel_rfl, ?_⟩) hHeld ?_
        rotate_left
        · (intro w hSw; (try dsimp only at hSw); go_simp); try with_reducible rfl
        try simp only [Act.put, List.setIfInBounds_toArray, List.set_cons_zero, List.set_cons_succ]
        refine wpAnyH_ready (rs := [26]) (by kernel_rfl) (by simp) (AllReadyH.cons (o := { dst := none, op := Op.store 3 (Operand.tmp 74) (Operand.tmp 65), type := 0, pos := "law.go:29", after := #[{ on := 25, ground := Ground.data }, { on := 16, ground := Ground.data }, { on := 0, ground := Ground.phase }, { on := 1, ground := Ground.phase }, { on := 2, ground := Ground.phase }, { on := 3, ground := Ground.phase }, { on := 4, ground := Ground.phase }, { on := 5, ground := Ground.textOnly Departure.lateStores }, { on := 6, ground := Ground.textOnly Departure.lateStoresUnsure }, { on := 7, ground := Ground.textOnly Departure.lateStoresUnsure }, { on := 8, ground := Ground.phase }, { on := 9, ground := Ground.textOnly Departure.lateStores }, { on := 10, ground := Ground.textOnly Departure.lateStores }, { on := 11, ground := Ground.textOnly Departure.lateStores }, { on := 12, ground := Ground.phase }, { on := 13, ground := Ground.phase }, { on := 14, ground := Ground.phase }, { on := 15, ground := Ground.phase }, { on := 16, ground := Ground.phase }, { on := 17, ground := Ground.textOnly Departure.lateStores }, { on := 18, ground := Ground.textOnly Departure.lateStores }, { on := 19, ground := Ground.textOnly Departure.lateStoresUnsure }, { on := 20, ground := Ground.textOnly Departure.lateStores }, { on := 21, ground := Ground.textOnly Departure.lateStores }, { on := 22, ground := Ground.textOnly Departure.lateStores }, { on := 23, ground := Ground.textOnly Departure.lateStoresUnsure }, { on := 24, ground := Ground.textOnly Departure.lateStores }], guard := none }) rfl (fun K hK => ?_) AllReadyH.nil)
        have hOld := hide hHeld
        clear hHeld
        go_simp
        have XB0s := hide ((block_setCell_other (show s ≠ xb from HNX.out.1) k (.int .i64 (1 + su))).trans XB0.out)
        have LA0s := hide (LA0.out.setSt k (by rw [LN0.out]; exact hkn) (1 + su))
        have LN0s := hide (show (((poolK L n k).set k (1 + su, ((poolK L n k).getD k (0, 0)).2))).length = n by first | exact LK.out | (simp only [List.length_set]; exact LK.out))
        have BB0s := hide (BB0.out.setCell (p := ⟨s, k, none⟩) (HBX.out.1) (.int .i64 (1 + su)))
        generalize v0.setCell ⟨s, k, none⟩ (.int .i64 (1 + su)) = v0s at *
        clear cs ct cl fs ft fl r0 r1
        obtain ⟨r0, r1⟩ := LA0s.out.ref.cells
        obtain ⟨cs, ct, fs, ft⟩ := LA0s.out.ref.at k (by rw [LN0s.out]; exact hkn)
        have fl := frozen_of_block LA0s.out.live k
        obtain ⟨z0s, cl⟩ := cell_live LA0s.out.live k (by rw [show (livV L n k).length = n by first | exact LV0.out | (simp only [List.length_set]; exact LV0.out)]; exact hkn)
        have LV0s := hide (show (livV L n k).length = n by first | exact LV0.out | (simp only [List.length_set]; exact LV0.out))
        rw [LN0s.out] at r0 r1
        have R00s := hide r0
        have R10s := hide r1
        (try go_wp2_with fail)
        refine hK.out _ _ (⟨cell_of_block XB0s.out 0, cell_of_block XB0s.out 1, cell_of_block XB0s.out 2, R00s.out, R10s.out⟩) (fun hHeld => ?_)
        clear hK K hOld
        try simp only [Act.put, List.setIfInBounds_toArray, List.set_cons_zero, List.set_cons_succ]
        refine wpAnyH_take (i := 27) (oi := { dst := some 75, op := Op.indexAddr 23 (Operand.tmp 57) (Operand.tmp 58), type := 0, pos := "law.go:29", after := #[{ on := 8, ground := Ground.data }, { on := 9, ground := Ground.data }, { on := 0, ground := Ground.phase }, { on := 1, ground := Ground.phase }, { on := 2, ground := Ground.phase }, { on := 3, ground := Ground.phase }, { on := 4, ground := Ground.phase }, { on := 5, ground := Ground.phase }, { on := 6, ground := Ground.phase }, { on := 7, ground := Ground.phase }, { on := 8, ground := Ground.phase }, { on := 9, ground := Ground.phase }, { on := 10, ground := Ground.textOnly Departure.lateStores }, { on := 11, ground := Ground.textOnly Departure.lateStores }, { on := 12, ground := Ground.phase }, { on := 13, ground := Ground.phase }, { on := 14, ground := Ground.phase }, { on := 15, ground := Ground.phase }, { on := 16, ground := Ground.phase }, { on := 17, ground := Ground.phase }, { on := 18, ground := Ground.phase }, { on := 19, ground := Ground.phase }, { on := 20, ground := Ground.phase }, { on := 21, ground := Ground.textOnly Departure.lateStores }, { on := 22, ground := Ground.textOnly Departure.lateStores }, { on := 23, ground := Ground.textOnly Departure.lateStoresUnsure }, { on := 24, ground := Ground.textOnly Departure.lateStores }, { on := 25, ground := Ground.phase }, { on := 26, ground := Ground.phase }], guard := none }) (v := ?_) rfl (by kernel_rfl) (by kernel_rfl) (by kernel_rfl) (fun _ _ _ h => h) (Or.inl ⟨by kernel_rfl, ?_⟩) hHeld ?_
        rotate_left
        · (intro w hSw; (try dsimp only at hSw); go_simp); try with_reducible rfl
        try simp only [Act.put, List.setIfInBounds_toArray, List.set_cons_zero, List.set_cons_succ]
        refine wpAnyH_ready (rs := [28]) (by kernel_rfl) (by simp) (AllReadyH.cons (o := { dst := none, op := Op.store 3 (Operand.tmp 75) (Operand.tmp 69), type := 0, pos := "law.go:29", after := #[{ on := 27, ground := Ground.data }, { on := 20, ground := Ground.data }, { on := 26, ground := Ground.chain }, { on := 0, ground := Ground.phase }, { on := 1, ground := Ground.phase }, { on := 2, ground := Ground.phase }, { on := 3, ground := Ground.phase }, { on := 4, ground := Ground.phase }, { on := 5, ground := Ground.phase }, { on := 6, ground := Ground.phase }, { on := 7, ground := Ground.phase }, { on := 8, ground := Ground.phase }, { on := 9, ground := Ground.phase }, { on := 10, ground := Ground.textOnly Departure.lateStores }, { on := 11, ground := Ground.textOnly Departure.lateStores }, { on := 12, ground := Ground.phase }, { on := 13, ground := Ground.phase }, { on := 14, ground := Ground.phase }, { on := 15, ground := Ground.phase }, { on := 16, ground := Ground.phase }, { on := 17, ground := Ground.phase }, { on := 18, ground := Ground.phase }, { on := 19, ground := Ground.phase }, { on := 20, ground := Ground.phase }, { on := 21, ground := Ground.textOnly Departure.lateStores }, { on := 22, ground := Ground.textOnly Departure.lateStores }, { on := 23, ground := Ground.textOnly Departure.lateStoresUnsure }, { on := 24, ground := Ground.textOnly Departure.lateStores }, { on := 25, ground := Ground.phase }, { on := 26, ground := Ground.phase }], guard := none }) rfl (fun K hK => ?_) AllReadyH.nil)
        have hOld := hide hHeld
        clear hHeld
        go_simp
        have XB0st := hide ((block_setCell_other (show t ≠ xb from HNX.out.2.1) k (.int .i64 wu)).trans XB0s.out)
        have LA0st := hide (LA0s.out.setWe k (by rw [LN0s.out]; exact hkn) wu)
        have LN0st := hide (show (((((poolK L n k).set k (1 + su, ((poolK L n k).getD k (0, 0)).2))).set k (((((poolK L n k).set k (1 + su, ((poolK L n k).getD k (0, 0)).2))).getD k (0, 0)).1, wu))).length = n by first | exact LK.out | (simp only [List.length_set]; exact LK.out))
        have BB0st := hide (BB0s.out.setCell (p := ⟨t, k, none⟩) (HBX.out.2.1) (.int .i64 wu))
        generalize v0s.setCell ⟨t, k, none⟩ (.int .i64 wu) = v0st at *
        clear cs ct cl fs ft fl r0 r1
        obtain ⟨r0, r1⟩ := LA0st.out.ref.cells
        obtain ⟨cs, ct, fs, ft⟩ := LA0st.out.ref.at k (by rw [LN0st.out]; exact hkn)
        have fl := frozen_of_block LA0st.out.live k
        obtain ⟨z0st, cl⟩ := cell_live LA0st.out.live k (by rw [show (livV L n k).length = n by first | exact LV0.out | (simp only [List.length_set]; exact LV0.out)]; exact hkn)
        have LV0st := hide (show (livV L n k).length = n by first | exact LV0.out | (simp only [List.length_set]; exact LV0.out))
        rw [LN0st.out] at r0 r1
        have R00st := hide r0
        have R10st := hide r1
        (try go_wp2_with fail)
        refine hK.out _ _ (⟨cell_of_block XB0st.out 0, cell_of_block XB0st.out 1, cell_of_block XB0st.out 2, R00st.out, R10st.out⟩) (fun hHeld => ?_)
        clear hK K hOld
        try simp only [Act.put, List.setIfInBounds_toArray, List.set_cons_zero, List.set_cons_succ]
        refine wpAnyH_take (i := 29) (oi := { dst := some 76, op := Op.indexAddr 23 (Operand.tmp 59) (Operand.tmp 60), type := 0, pos := "law.go:29", after := #[{ on := 10, ground := Ground.data }, { on := 11, ground := Ground.data }, { on := 0, ground := Ground.phase }, { on := 1, ground := Ground.phase }, { on := 2, ground := Ground.phase }, { on := 3, ground := Ground.phase }, { on := 4, ground := Ground.phase }, { on := 5, ground := Ground.phase }, { on := 6, ground := Ground.phase }, { on := 7, ground := Ground.phase }, { on := 8, ground := Ground.phase }, { on := 9, ground := Ground.phase }, { on := 10, ground := Ground.phase }, { on := 11, ground := Ground.phase }, { on := 12, ground := Ground.phase }, { on := 13, ground := Ground.phase }, { on := 14, ground := Ground.phase }, { on := 15, ground := Ground.phase }, { on := 16, ground := Ground.phase }, { on := 17, ground := Ground.phase }, { on := 18, ground := Ground.phase }, { on := 19, ground := Ground.phase }, { on := 20, ground := Ground.phase }, { on := 21, ground := Ground.phase }, { on := 22, ground := Ground.phase }, { on := 23, ground := Ground.phase }, { on := 24, ground := Ground.phase }, { on := 25, ground := Ground.phase }, { on := 26, ground := Ground.phase }, { on := 27, ground := Ground.phase }, { on := 28, ground := Ground.phase }], guard := none }) (v := ?_) rfl (by kernel_rfl) (by kernel_rfl) (by kernel_rfl) (fun _ _ _ h => h) (Or.inl ⟨by kernel_rfl, ?_⟩) hHeld ?_
        rotate_left
        · (intro w hSw; (try dsimp only at hSw); go_simp); try with_reducible rfl
        try simp only [Act.put, List.setIfInBounds_toArray, List.set_cons_zero, List.set_cons_succ]
        refine wpAnyH_ready (rs := [30]) (by kernel_rfl) (by simp) (AllReadyH.cons (o := { dst := none, op := Op.store 3 (Operand.tmp 76) (Operand.tmp 73), type := 0, pos := "law.go:29", after := #[{ on := 29, ground := Ground.data }, { on := 24, ground := Ground.data }, { on := 28, ground := Ground.chain }, { on := 0, ground := Ground.phase }, { on := 1, ground := Ground.phase }, { on := 2, ground := Ground.phase }, { on := 3, ground := Ground.phase }, { on := 4, ground := Ground.phase }, { on := 5, ground := Ground.phase }, { on := 6, ground := Ground.phase }, { on := 7, ground := Ground.phase }, { on := 8, ground := Ground.phase }, { on := 9, ground := Ground.phase }, { on := 10, ground := Ground.phase }, { on := 11, ground := Ground.phase }, { on := 12, ground := Ground.phase }, { on := 13, ground := Ground.phase }, { on := 14, ground := Ground.phase }, { on := 15, ground := Ground.phase }, { on := 16, ground := Ground.phase }, { on := 17, ground := Ground.phase }, { on := 18, ground := Ground.phase }, { on := 19, ground := Ground.phase }, { on := 20, ground := Ground.phase }, { on := 21, ground := Ground.phase }, { on := 22, ground := Ground.phase }, { on := 23, ground := Ground.phase }, { on := 24, ground := Ground.phase }, { on := 25, ground := Ground.phase }, { on := 26, ground := Ground.phase }, { on := 27, ground := Ground.phase }, { on := 28, ground := Ground.phase }], guard := none }) rfl (fun K hK => ?_) AllReadyH.nil)
        have hOld := hide hHeld
        clear hHeld
        go_simp
        have XB0stl := hide ((block_setCell_other (show a3 ≠ xb from HNX.out.2.2) k (.int .i64 (lu : Int))).trans XB0st.out)
        have LA0stl := hide (LA0st.out.setLv k (.int .i64 (lu : Int)))
        have LN0stl := hide (show (((((poolK L n k).set k (1 + su, ((poolK L n k).getD k (0, 0)).2))).set k (((((poolK L n k).set k (1 + su, ((poolK L n k).getD k (0, 0)).2))).getD k (0, 0)).1, wu))).length = n by first | exact LK.out | (simp only [List.length_set]; exact LK.out))
        have BB0stl := hide (BB0st.out.setCell (p := ⟨a3, k, none⟩) (HBX.out.2.2) (.int .i64 (lu : Int)))
        generalize v0st.setCell ⟨a3, k, none⟩ (.int .i64 (lu : Int)) = v0stl at *
        clear cs ct cl fs ft fl r0 r1
        obtain ⟨r0, r1⟩ := LA0stl.out.ref.cells
        obtain ⟨cs, ct, fs, ft⟩ := LA0stl.out.ref.at k (by rw [LN0stl.out]; exact hkn)
        have fl := frozen_of_block LA0stl.out.live k
        obtain ⟨z0stl, cl⟩ := cell_live LA0stl.out.live k (by rw [show ((livV L n k).set k (.int .i64 (lu : Int))).length = n by first | exact LV0.out | (simp only [List.length_set]; exact LV0.out)]; exact hkn)
        have LV0stl := hide (show ((livV L n k).set k (.int .i64 (lu : Int))).length = n by first | exact LV0.out | (simp only [List.length_set]; exact LV0.out))
        rw [LN0stl.out] at r0 r1
        have R00stl := hide r0
        have R10stl := hide r1
        (try go_wp2_with fail)
        refine hK.out _ _ (⟨cell_of_block XB0stl.out 0, cell_of_block XB0stl.out 1, cell_of_block XB0stl.out 2, R00stl.out, R10stl.out⟩) (fun hHeld => ?_)
        clear hK K hOld
        try simp only [Act.put, List.setIfInBounds_toArray, List.set_cons_zero, List.set_cons_succ]
        refine wpAnyH_done (by kernel_rfl) ?_ _
        clear hHeld cs ct cl fs ft fl r0 r1
        go_wp2_with fail
        go_meet
        exact ⟨by have h := LA0stl.out; rw [set_two _ k (by rw [LN0.out]; exact hkn)] at h; rw [← HPK.out, ← HLV.out]; exact h, XB0stl.out, BB0stl.out⟩
      case rest =>
        obtain ⟨hl, hx, hb⟩ := hcut
        have LL := hide hl
        have XB := hide hx
        have BL := hide hb
        clear hl hx hb XB0 LA0 BB0 R00 R10 r0 r1 cs ct cl fs ft fl LN0 LV0 HNX
        have hkn1 : k + 1 ≤ n := by omega
        have LK1 := hide (show (poolK L n (k + 1)).length = n from genK_length toP (1, 0) L n (k + 1) (by omega) hkn1)
        have LG1 := hide (show (poolK L n (k + 1)).getD k (0, 0) = (1 + su, wu) from by
          rw [← HPK.out]
          simp [List.getD, show k < (poolK L n k).length by rw [LK.out]; exact hkn])
        have LV1 := hide (show (livV L n (k + 1))[k]? = some (.int .i64 (lu : Int)) from by
          rw [← HLV.out, List.getElem?_set, if_pos rfl, if_pos (by unfold livV; rw [genK_length _ _ L n k (by omega) (by omega)]; exact hkn)])
        have HP0 := hide p0
        clear p0
        -- Worn
        obtain ⟨r0, r1⟩ := LL.out.ref.cells
        obtain ⟨cs, ct, -, -⟩ := LL.out.ref.at k (by rw [LK1.out]; exact hkn)
        rw [LK1.out] at r0 r1
        rw [LG1.out] at cs ct
        dsimp only at cs ct
        have HWO := hide (worn_any p q (poolK L n k) (k : Int) wu wc LL.out.pool)
        have hwe : wornE (poolK L n k) (k : Int) wu = 0 := by
          unfold wornE
          rw [if_pos ⟨by omega, by rw [LK.out]; omega⟩, if_neg (by omega)]
        rw [show wornL (poolK L n k) (k : Int) wu = (poolK L n k).set k (1, wu) by unfold wornL; rw [if_pos hwe, Int.toNat_natCast, HP0.out], hwe] at HWO
        clear hwe
        go_wp2_with fail
        refine HWO.out.mono ?_
        rintro e w6 ⟨rfl, hp, ho⟩
        have LL6 := hide (LL.out.setPool hp ho)
        have XB6 := hide ((ho.block xb (heap_lt XB.out) (by have h1 := HQX.out; omega)).trans XB.out)
        have BL6 := hide (show Below w.heap.size w w6 from ho.below BL.out LL.out.ord1.2.1 BL.out.size)
        clear hp ho LL XB BL HWO r0 r1 cs ct
        -- Set
        obtain ⟨r0, r1⟩ := LL6.out.ref.cells
        obtain ⟨cs, ct, -, -⟩ := LL6.out.ref.at k (by rw [LK1.out]; exact hkn)
        rw [LK1.out] at r0 r1
        rw [LG1.out] at cs ct
        dsimp only at cs ct
        have HSE := hide (set_any p q ((poolK L n k).set k (1, wu)) (k : Int) (1 + su) w6 LL6.out.pool)
        have hg1 : ((poolK L n k).set k (1, wu)).getD k (0, 0) = (1, wu) := by simp [List.getD, show k < (poolK L n k).length by rw [LK.out]; exact hkn]
        have hse : setE ((poolK L n k).set k (1, wu)) (k : Int) (1 + su) = 0 := by
          unfold setE
          rw [if_pos ⟨by omega, by rw [List.length_set, LK.out]; omega⟩, if_neg (by omega), Int.toNat_natCast, hg1, if_neg (by show ¬ (1 : Int) = 3; decide)]
        rw [show setL ((poolK L n k).set k (1, wu)) (k : Int) (1 + su) = poolK L n (k + 1) by unfold setL; rw [if_pos hse, Int.toNat_natCast, hg1, List.set_set, HPK.out], hse] at HSE
        clear hse hg1
        go_wp2_with fail
        refine HSE.out.mono ?_
        rintro e w7 ⟨rfl, hp, ho⟩
        have LL7 := hide (LL6.out.setPool hp ho)
        have BL7 := hide (show Below w.heap.size w w7 from ho.below BL6.out LL6.out.ord1.2.1 BL6.out.size)
        clear hp ho LL6 XB6 BL6 HSE r0 r1 cs ct
        have cl : w7.cell? ⟨a3, k, none⟩ = some (.int .i64 (lu : Int)) := by
          rw [cell_of_block LL7.out.live, List.getElem?_toArray]
          exact LV1.out
        go_wp2_with fail
        clear cl
        go_loopw [14, 101] (fun c z W => ∃ (i c' : Nat) (S' : Spots), i ≤ lu ∧ c = .int .i64 c' ∧ z = .int .i64 i ∧ SpI S' (n * 8) c' k i L ∧ LaidAt W w.heap.size a1 a2 a3 p q m q' o l r s t (poolK L n (k + 1)) n S' (poolK L n (k + 1)) (livV L n (k + 1)) ∧ Below w.heap.size w W) (fun _ z _ => lu - (intOf z).toNat)
        case atStart => exact ⟨0, cur, S, by omega, rfl, rfl, SP.out, LL7.out, BL7.out⟩
        case round =>
          clear SP LL7 BL7
          obtain ⟨i, c', S', hi, rfl, rfl, hsp, hl, hb⟩ := hrel
          have SP := hide hsp
          have LL := hide hl
          have BL := hide hb
          clear hsp hl hb
          by_cases hlt2 : i < lu
          · have hcc : c' < n * 8 := by have := SP.out.cur; omega
            have hcw : (c' : Int) ≤ 100000 := by omega
            have HPU := hide (put_ok LL.out.map c' k i (by rw [SP.out.len]; exact hcc) hkn (by omega) (.inl SP.out.owner))
            go_wp2_with fail
            refine HPU.out.mono ?_
            rintro e w8 ⟨rfl, hm, ho⟩
            have LL8 := hide (LL.out.setMap hm ho)
            have BL8 := hide (show Below w.heap.size w w8 from ho.below BL.out (by intro x hx; have h1 := LL.out.ord1; have h2 := LL.out.ord2; simp at hx; omega) BL.out.size)
            have SP8 := hide (SP.out.put hcc)
            clear hm ho LL BL SP HPU
            go_wp2_with fail
            go_roundw
            case rel => exact ⟨i + 1, c' + 1, _, by omega, by go_num, by go_num, SP8.out, LL8.out, BL8.out⟩
            case measure => simp [intOf]; omega
          · obtain rfl : i = lu := by omega
            have hnx2 : toN (L.getD k bq0) = i := by rw [HX.out]; have := hli1.out; omega
            have SP9 := SP.out
            rw [← hnx2] at SP9
            have SPN := hide SP9.next
            clear SP9 hnx2
            go_wp2_with fail
            go_roundw
            case rel => exact ⟨k + 1, c', S', by omega, rfl, by go_num, SPN.out, LL.out, BL.out⟩
            case measure => simp [intOf]; omega
    · obtain rfl : k = mm := by omega
      go_wp2_with fail
      (try simp only [Exit.inBlock, Exit.then])
      refine bodyPost_ret (results_tmp5 rfl _ _ _) rfl ?_
      exact ⟨a1, a2, a3, p, q, m, q', o, l, r, s, t, S, rfl, LL.out, SP.out.lvZ hmn, BL.out⟩
end Go.Proofs.Ytpgogdnjddeagaa
