/-
  Layer 28: same: a request that the program and the document tell alike is the same.
-/
import Derived.Test.YtkbikflincjhhaaReqD
import Derived.Test.YtkbikflincjhhaaReqK

namespace Go.Proofs.Ytkbikflincjhhaa
set_option linter.unusedSimpArgs false
set_option linter.unusedVariables false
open Go.RowKit Go.WideShapes Go.ChangeShapes Go.ChangeAt Go.Deep
theorem below_dN {B : Nat} {a b : World} (h : Below B a b) (n : Nat) : Below B a (b.drewN n) := ⟨h.os, h.tape, h.output, h.size, h.block⟩
structure SmF (w W : World) (p q r : Nat) (A B E : Array Value) : Prop where
  a : W.heap[p]? = some (.cells A 39 (0, 0))
  b : W.heap[q]? = some (.cells B 42 (0, 0))
  e : W.heap[r]? = some (.cells E 37 (0, 0))
  below : Below w.heap.size w W
theorem SmF.low {w W W' : World} {p q r : Nat} {A B E : Array Value} (h : SmF w W p q r A B E) (hb : Below W.heap.size W W') : SmF w W' p q r A B E :=
  ⟨(hb.block _ (heap_lt h.a)).trans h.a, (hb.block _ (heap_lt h.b)).trans h.b, (hb.block _ (heap_lt h.e)).trans h.e, h.below.trans (hb.mono h.below.size)⟩
theorem SmF.new (w : World) (A B E : Array Value) : ((w.alloc (.cells A 39)).alloc (.cells B 42)).heap[w.heap.size]? = some (.cells A 39 (0, 0)) ∧ SmF w (((w.alloc (.cells A 39)).alloc (.cells B 42)).alloc (.cells E 37)) w.heap.size (w.heap.size + 1) (w.heap.size + 2) A B E := by
  have s1 : (w.alloc (.cells A 39)).heap.size = w.heap.size + 1 := Array.size_push ..
  have s2 : ((w.alloc (.cells A 39)).alloc (.cells B 42)).heap.size = w.heap.size + 2 := (Array.size_push ..).trans (by rw [s1])
  have x1 : (w.alloc (.cells A 39)).heap[w.heap.size]? = some (.cells A 39 (0, 0)) := heap_new _ _
  have b1 := (Below.refl w.heap.size w).alloc (Nat.le_refl _) (.cells A 39)
  generalize w.alloc (.cells A 39) = w1 at *
  have x2 : (w1.alloc (.cells B 42)).heap[w1.heap.size]? = some (.cells B 42 (0, 0)) := heap_new _ _
  have b2 := (Below.refl w1.heap.size w1).alloc (Nat.le_refl _) (.cells B 42)
  have y1 := (b2.block _ (heap_lt x1)).trans x1
  generalize w1.alloc (.cells B 42) = w2 at *
  have b3 := (Below.refl w2.heap.size w2).alloc (Nat.le_refl _) (.cells E 37)
  have x3 := heap_new w2 (.cells E 37)
  rw [s1] at x2
  rw [s2] at x3
  exact ⟨y1, (b3.block _ (heap_lt y1)).trans y1, (b3.block _ (heap_lt x2)).trans x2, x3, (b1.trans (b2.mono (by omega))).trans (b3.mono (by omega))⟩
set_option maxRecDepth 100000 in
set_option maxHeartbeats 2000000 in
theorem same_low (k ek key ref amt code ak : Int) (name : ByteArray) (L : List LnM) (n : Int) (hk0 : 0 ≤ k) (hk : k ≤ 9) (hL : L.length ≤ 20) (a1 : Option Addr) (c1 : Nat) (a2 : Option Addr) (c2 : Nat) (w : World) (h1 : LnIn w a1 L) (h2 : LnIn w a2 L) :
    Calls Try.prog 12 #[.agg #[.int .u8 k, .int .u8 k, .int .u64 key, .int .i64 ref, .int .i64 amt, .int .i64 code, .int .u8 ak, .string name, .slice a1 L.length c1, .int .i64 n], .agg #[.int .u8 k, .int .i64 code, .int .u8 ak, .string name, .int .u64 key, .int .i64 ref, .int .i64 amt, .int .i64 n, .slice a2 L.length c2]] w fun e w' => e = .returned (.bool true) ∧ Below w.heap.size w w' := by
  obtain ⟨x0, s0⟩ := SmF.new w #[.int .u8 k, .int .u8 k, .int .u64 key, .int .i64 ref, .int .i64 amt, .int .i64 code, .int .u8 ak, .string name, .slice a1 L.length c1, .int .i64 n] #[.int .u8 k, .int .i64 code, .int .u8 ak, .string name, .int .u64 key, .int .i64 ref, .int .i64 amt, .int .i64 n, .slice a2 L.length c2] #[.int .u8 k, .int .u64 key, .int .i64 ref, .int .i64 amt, .int .i64 code, .int .u8 ak, .string name, .slice a1 L.length c1]
  have X0 := hide x0
  have S0 := hide s0
  have H1 := hide h1
  have H2 := hide h2
  clear x0 s0 h1 h2
  obtain ⟨⟨e0, e1, e2, e3, e4, e5, e6, e7, e8, e9⟩, -⟩ := row10_facts X0.out
  go_enter Try.func12, Try.ntmps12
  go_upto_region 2 with (fail)
  clear e0 e1 e2 e3 e4 e5 e6 e7 e8 e9 X0
  generalize ((w.alloc (.cells #[.int .u8 k, .int .u8 k, .int .u64 key, .int .i64 ref, .int .i64 amt, .int .i64 code, .int .u8 ak, .string name, .slice a1 L.length c1, .int .i64 n] 39)).alloc (.cells #[.int .u8 k, .int .i64 code, .int .u8 ak, .string name, .int .u64 key, .int .i64 ref, .int .i64 amt, .int .i64 n, .slice a2 L.length c2] 42)).alloc (.cells #[.int .u8 k, .int .u64 key, .int .i64 ref, .int .i64 amt, .int .i64 code, .int .u8 ak, .string name, .slice a1 L.length c1] 37) = W0 at *
  generalize w.heap.size + 2 = r at S0 ⊢
  generalize w.heap.size + 1 = q at S0 ⊢
  generalize hp : w.heap.size = p at S0 ⊢
  clear hp
  obtain ⟨⟨e0, -, -, -, -, -, -, -, -, e9⟩, -⟩ := row10_facts S0.out.a
  have d0 := cell_of_block S0.out.b 0
  have d1 := cell_of_block S0.out.b 1
  have d2 := cell_of_block S0.out.b 2
  have d3 := cell_of_block S0.out.b 3
  have d4 := cell_of_block S0.out.b 4
  have d5 := cell_of_block S0.out.b 5
  have d6 := cell_of_block S0.out.b 6
  have d7 := cell_of_block S0.out.b 7
  have d8 := cell_of_block S0.out.b 8
  have f0 := cell_of_block S0.out.e 0
  have f1 := cell_of_block S0.out.e 1
  have f2 := cell_of_block S0.out.e 2
  have f3 := cell_of_block S0.out.e 3
  have f4 := cell_of_block S0.out.e 4
  have f5 := cell_of_block S0.out.e 5
  have f6 := cell_of_block S0.out.e 6
  have f7 := cell_of_block S0.out.e 7
  go_upto_region 7 with (fail)
  go_wp2_with fail
  clear e0 e9 d0 d1 d2 d3 d4 d5 d6 d7 d8 f0 f1 f2 f3 f4 f5 f6 f7
  go_loopw [91] (fun i W => ∃ m : Nat, m ≤ L.length ∧ i = .int .i64 m ∧ SmF w W p q r #[.int .u8 k, .int .u8 k, .int .u64 key, .int .i64 ref, .int .i64 amt, .int .i64 code, .int .u8 ak, .string name, .slice a1 L.length c1, .int .i64 n] #[.int .u8 k, .int .i64 code, .int .u8 ak, .string name, .int .u64 key, .int .i64 ref, .int .i64 amt, .int .i64 n, .slice a2 L.length c2] #[.int .u8 k, .int .u64 key, .int .i64 ref, .int .i64 amt, .int .i64 code, .int .u8 ak, .string name, .slice a1 L.length c1]) (fun i _ => L.length - (intOf i).toNat)
  case atStart => exact ⟨0, by omega, rfl, S0.out⟩
  case round =>
    obtain ⟨m, hm, rfl, hs⟩ := hrel
    have SM := hide hs
    clear hs S0
    by_cases hlt : m < L.length
    · obtain ⟨bl, of1, ha1, hb1, p0, p1⟩ := (H1.out.below SM.out.below) m hlt
      obtain ⟨bd, of2, ha2, hb2, q0, q1⟩ := (H2.out.below SM.out.below) m hlt
      subst ha1
      subst ha2
      generalize L.getD m ln0 = x at *
      obtain ⟨xc, xn⟩ := x
      dsimp only at *
      have hal := (Below.refl wr.heap.size wr).alloc (Nat.le_refl _) (.cells #[.int .i64 xc, .int .i64 xn] 81)
      have XL := hide (heap_new wr (.cells #[.int .i64 xc, .int .i64 xn] 81))
      have S1 := hide (SM.out.low hal)
      have Q0 := hide (cell_keep q0 hb2 hal)
      have Q1 := hide (cell_keep q1 hb2 hal)
      clear hal SM hb1 hb2 q0 q1
      go_upto_region 10 with (fail)
      generalize wr.alloc (.cells #[.int .i64 xc, .int .i64 xn] 81) = w1 at *
      generalize wr.heap.size = z at *
      clear p0 p1
      have q0 := Q0.out
      have q1 := Q1.out
      have y0 := cell_of_block XL.out 0
      have y1 := cell_of_block XL.out 1
      have d8 := cell_of_block S1.out.b 8
      go_quiet (fail)
      clear q0 q1 y0 y1 d8
      go_wp2_with fail
      go_roundw
      case rel => exact ⟨m + 1, by omega, by go_num, S1.out.low (below_dN (Below.refl _ _) _)⟩
      case measure => simp [intOf]; omega
    · obtain rfl : L.length = m := by omega
      go_wp2_with fail
      go_ret
      exact ⟨rfl, SM.out.below⟩
set_option maxRecDepth 100000 in
set_option maxHeartbeats 2000000 in
theorem same_high (k ek key ref amt code ak : Int) (name : ByteArray) (L : List LnM) (n : Int) (hk : ¬ k ≤ 9) (hL : L.length ≤ 20) (a1 : Option Addr) (c1 : Nat) (a2 : Option Addr) (c2 : Nat) (w : World) (h1 : LnIn w a1 L) (h2 : LnIn w a2 L) :
    Calls Try.prog 12 #[.agg #[.int .u8 k, .int .u8 0, .int .u64 key, .int .i64 ref, .int .i64 amt, .int .i64 code, .int .u8 ak, .string name, .slice a1 L.length c1, .int .i64 n], .agg #[.int .u8 k, .int .i64 code, .int .u8 ak, .string name, .int .u64 key, .int .i64 ref, .int .i64 amt, .int .i64 n, .slice a2 L.length c2]] w fun e w' => e = .returned (.bool true) ∧ Below w.heap.size w w' := by
  obtain ⟨x0, s0⟩ := SmF.new w #[.int .u8 k, .int .u8 0, .int .u64 key, .int .i64 ref, .int .i64 amt, .int .i64 code, .int .u8 ak, .string name, .slice a1 L.length c1, .int .i64 n] #[.int .u8 k, .int .i64 code, .int .u8 ak, .string name, .int .u64 key, .int .i64 ref, .int .i64 amt, .int .i64 n, .slice a2 L.length c2] #[.int .u8 0, .int .u64 key, .int .i64 ref, .int .i64 amt, .int .i64 code, .int .u8 ak, .string name, .slice a1 L.length c1]
  have X0 := hide x0
  have S0 := hide s0
  have H1 := hide h1
  have H2 := hide h2
  clear x0 s0 h1 h2
  obtain ⟨⟨e0, e1, e2, e3, e4, e5, e6, e7, e8, e9⟩, -⟩ := row10_facts X0.out
  go_enter Try.func12, Try.ntmps12
  go_upto_region 2 with (fail)
  clear e0 e1 e2 e3 e4 e5 e6 e7 e8 e9 X0
  generalize ((w.alloc (.cells #[.int .u8 k, .int .u8 0, .int .u64 key, .int .i64 ref, .int .i64 amt, .int .i64 code, .int .u8 ak, .string name, .slice a1 L.length c1, .int .i64 n] 39)).alloc (.cells #[.int .u8 k, .int .i64 code, .int .u8 ak, .string name, .int .u64 key, .int .i64 ref, .int .i64 amt, .int .i64 n, .slice a2 L.length c2] 42)).alloc (.cells #[.int .u8 0, .int .u64 key, .int .i64 ref, .int .i64 amt, .int .i64 code, .int .u8 ak, .string name, .slice a1 L.length c1] 37) = W0 at *
  generalize w.heap.size + 2 = r at S0 ⊢
  generalize w.heap.size + 1 = q at S0 ⊢
  generalize hp : w.heap.size = p at S0 ⊢
  clear hp
  obtain ⟨⟨e0, -, -, -, -, -, -, -, -, e9⟩, -⟩ := row10_facts S0.out.a
  have d0 := cell_of_block S0.out.b 0
  have d1 := cell_of_block S0.out.b 1
  have d2 := cell_of_block S0.out.b 2
  have d3 := cell_of_block S0.out.b 3
  have d4 := cell_of_block S0.out.b 4
  have d5 := cell_of_block S0.out.b 5
  have d6 := cell_of_block S0.out.b 6
  have d7 := cell_of_block S0.out.b 7
  have d8 := cell_of_block S0.out.b 8
  have f0 := cell_of_block S0.out.e 0
  have f1 := cell_of_block S0.out.e 1
  have f2 := cell_of_block S0.out.e 2
  have f3 := cell_of_block S0.out.e 3
  have f4 := cell_of_block S0.out.e 4
  have f5 := cell_of_block S0.out.e 5
  have f6 := cell_of_block S0.out.e 6
  have f7 := cell_of_block S0.out.e 7
  go_upto_region 7 with (fail)
  go_wp2_with fail
  clear e0 e9 d0 d1 d2 d3 d4 d5 d6 d7 d8 f0 f1 f2 f3 f4 f5 f6 f7
  go_loopw [91] (fun i W => ∃ m : Nat, m ≤ L.length ∧ i = .int .i64 m ∧ SmF w W p q r #[.int .u8 k, .int .u8 0, .int .u64 key, .int .i64 ref, .int .i64 amt, .int .i64 code, .int .u8 ak, .string name, .slice a1 L.length c1, .int .i64 n] #[.int .u8 k, .int .i64 code, .int .u8 ak, .string name, .int .u64 key, .int .i64 ref, .int .i64 amt, .int .i64 n, .slice a2 L.length c2] #[.int .u8 0, .int .u64 key, .int .i64 ref, .int .i64 amt, .int .i64 code, .int .u8 ak, .string name, .slice a1 L.length c1]) (fun i _ => L.length - (intOf i).toNat)
  case atStart => exact ⟨0, by omega, rfl, S0.out⟩
  case round =>
    obtain ⟨m, hm, rfl, hs⟩ := hrel
    have SM := hide hs
    clear hs S0
    by_cases hlt : m < L.length
    · obtain ⟨bl, of1, ha1, hb1, p0, p1⟩ := (H1.out.below SM.out.below) m hlt
      obtain ⟨bd, of2, ha2, hb2, q0, q1⟩ := (H2.out.below SM.out.below) m hlt
      subst ha1
      subst ha2
      generalize L.getD m ln0 = x at *
      obtain ⟨xc, xn⟩ := x
      dsimp only at *
      have hal := (Below.refl wr.heap.size wr).alloc (Nat.le_refl _) (.cells #[.int .i64 xc, .int .i64 xn] 81)
      have XL := hide (heap_new wr (.cells #[.int .i64 xc, .int .i64 xn] 81))
      have S1 := hide (SM.out.low hal)
      have Q0 := hide (cell_keep q0 hb2 hal)
      have Q1 := hide (cell_keep q1 hb2 hal)
      clear hal SM hb1 hb2 q0 q1
      go_upto_region 10 with (fail)
      generalize wr.alloc (.cells #[.int .i64 xc, .int .i64 xn] 81) = w1 at *
      generalize wr.heap.size = z at *
      clear p0 p1
      have q0 := Q0.out
      have q1 := Q1.out
      have y0 := cell_of_block XL.out 0
      have y1 := cell_of_block XL.out 1
      have d8 := cell_of_block S1.out.b 8
      go_quiet (fail)
      clear q0 q1 y0 y1 d8
      go_wp2_with fail
      go_roundw
      case rel => exact ⟨m + 1, by omega, by go_num, S1.out.low (below_dN (Below.refl _ _) _)⟩
      case measure => simp [intOf]; omega
    · obtain rfl : L.length = m := by omega
      go_wp2_with fail
      go_ret
      exact ⟨rfl, SM.out.below⟩
theorem same_any (x : RqM) (hk : 0 ≤ x.k) (he : x.ek = if x.k ≤ 9 then x.k else 0) (hL : x.L.length ≤ 20) (a1 : Option Addr) (c1 : Nat) (a2 : Option Addr) (c2 : Nat) (w : World) (h1 : LnIn w a1 x.L) (h2 : LnIn w a2 x.L) :
    Calls Try.prog 12 #[.agg (rqC x (.slice a1 x.L.length c1)), .agg (rdC x (.slice a2 x.L.length c2))] w fun e w' => e = .returned (.bool true) ∧ Below w.heap.size w w' := by
  obtain ⟨k, ek, key, ref, amt, code, ak, name, L, n⟩ := x
  dsimp only at *
  by_cases h : k ≤ 9
  · rw [if_pos h] at he
    subst he
    exact same_low ek ek key ref amt code ak name L n hk h hL a1 c1 a2 c2 w h1 h2
  · rw [if_neg h] at he
    subst he
    exact same_high k 0 key ref amt code ak name L n h hL a1 c1 a2 c2 w h1 h2
end Go.Proofs.Ytkbikflincjhhaa
