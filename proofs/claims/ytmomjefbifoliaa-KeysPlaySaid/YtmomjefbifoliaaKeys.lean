/-
  Layer 24, the program's calls: New, where a key's entry is, Match by contract.
-/
import Derived.Test.YtmomjefbifoliaaMKeys
--import Derived.Test.Zdbg
namespace Go.Proofs.Ytmomjefbifoliaa
set_option linter.unusedSimpArgs false
set_option linter.unusedVariables false
open Go.RowKit Go.WideShapes Go.ChangeShapes Go.ChangeAt

/-- block p is keys: so many are kept, these are; v is their slice -/
structure KeysAt (w : World) (p B lim : Nat) (L : List Ent) (v : Value) : Prop where
  head : w.heap[p]? = some (.cells #[.int .i64 (lim : Int), v] 58 (0, 0))
  owns : w.ownsRow B 37 3 v L.length (L.flatMap entC)
  base : B ≤ p
theorem KeysAt.below {w w' : World} {p B lim : Nat} {L : List Ent} {v : Value} (h : KeysAt w p B lim L v) (hb : Below w.heap.size w w') : KeysAt w' p B lim L v :=
  ⟨(hb.block _ (heap_lt h.head)).trans h.head, owns_below h.owns hb, h.base⟩
theorem KeysAt.lt {w : World} {p B lim : Nat} {L : List Ent} {v : Value} (h : KeysAt w p B lim L v) : p < w.heap.size := heap_lt h.head
theorem KeysAt.cell0 {w : World} {p B lim : Nat} {L : List Ent} {v : Value} (h : KeysAt w p B lim L v) : w.cell? ⟨p, 0, none⟩ = some (.int .i64 (lim : Int)) := cell_of_block h.head 0
theorem KeysAt.cell1 {w : World} {p B lim : Nat} {L : List Ent} {v : Value} (h : KeysAt w p B lim L v) : w.cell? ⟨p, 1, none⟩ = some v := cell_of_block h.head 1
theorem KeysAt.free {w : World} {p B lim : Nat} {L : List Ent} {v : Value} (h : KeysAt w p B lim L v) (j : Nat) : w.frozen? ⟨p, j, none⟩ = false := frozen_of_block h.head j
/-- an entry that a slice of the call's own has -/
theorem ents_at {w : World} {B : Nat} {a : Option Addr} {c : Nat} {L : List Ent} (h : w.ownsRow B 37 3 (.slice a L.length c) L.length (L.flatMap entC)) (i : Nat) (hi : i < L.length) :
    ∃ g, a = some ⟨g, 0, none⟩ ∧ g < w.heap.size ∧ w.cell? ⟨g, i * 3, none⟩ = some (.int .u64 (L.getD i ent0).k) ∧ w.cell? ⟨g, i * 3 + 1, none⟩ = some (.string (L.getD i ent0).b) ∧ w.cell? ⟨g, i * 3 + 2, none⟩ = some (.int .i64 (L.getD i ent0).n) := by
  obtain ⟨g, ha, _, hg, hc⟩ := owns_rows entC entC_length ent0 h i hi
  exact ⟨g, ha, hg, hc 0 (by omega), hc 1 (by omega), hc 2 (by omega)⟩

theorem new_ok (n : Nat) (h1 : 1 ≤ n) (h2 : n ≤ 64) (w : World) :
    Calls Try.prog 6 #[.int .i64 (n : Int)] w fun e w' => ∃ p, e = .returned (.tuple #[.pointer (some ⟨p, 0, none⟩), .int .i64 0]) ∧ KeysAt w' p w.heap.size n [] (.slice none 0 0) ∧ Below w.heap.size w w' := by
  have g1 : ¬ (n : Int) < 1 := by omega
  have g2 : ¬ (64 : Int) < n := by omega
  go_enter Try.func6, Try.ntmps6
  go_wp2_with fail
  go_ret2
  exact ⟨_, rfl, ⟨heap_new w _, World.ownsRow_nil _ _ _ _, Nat.le_refl _⟩, (Below.refl _ _).alloc (Nat.le_refl _) _⟩

theorem find1_yes (k n : Int) (b : ByteArray) (q : Nat) (w : World) (hc : w.cell? ⟨q, 0, none⟩ = some (.int .u64 k)) :
    Calls Try.prog 27 #[.agg #[.int .u64 k, .string b, .int .i64 n], .pointer (some ⟨q, 0, none⟩)] w fun e w' => e = .returned (.bool true) ∧ Below w.heap.size w w' := by
  have hq : q < w.heap.size := World.block_lt_of_cell? w _ hc
  have h2 := (World.cell?_alloc_old w (.cells #[.int .u64 k, .string b, .int .i64 n] 37) ⟨q, 0, none⟩ (by show q ≠ _; omega)).trans hc
  have HQ := hide hq
  clear hc hq
  go_enter Try.func27, Try.ntmps27
  go_wp2_with fail
  go_ret
  exact ⟨rfl, (Below.refl _ _).alloc (Nat.le_refl _) _⟩
theorem find1_no (k n key : Int) (b : ByteArray) (hk : ¬ k = key) (q : Nat) (w : World) (hc : w.cell? ⟨q, 0, none⟩ = some (.int .u64 key)) :
    Calls Try.prog 27 #[.agg #[.int .u64 k, .string b, .int .i64 n], .pointer (some ⟨q, 0, none⟩)] w fun e w' => e = .returned (.bool false) ∧ Below w.heap.size w w' := by
  have hq : q < w.heap.size := World.block_lt_of_cell? w _ hc
  have h2 := (World.cell?_alloc_old w (.cells #[.int .u64 k, .string b, .int .i64 n] 37) ⟨q, 0, none⟩ (by show q ≠ _; omega)).trans hc
  have HQ := hide hq
  clear hc hq
  go_enter Try.func27, Try.ntmps27
  go_wp2_with fail
  go_ret
  exact ⟨by simpa using hk, (Below.refl _ _).alloc (Nat.le_refl _) _⟩

set_option maxRecDepth 100000 in
set_option maxHeartbeats 400000 in
theorem indexFunc_any (L : List Ent) (hL : L.length ≤ 1000) (a : Option Addr) (c B : Nat) (key : Int) (q : Nat) (w : World) (hown : w.ownsRow B 37 3 (.slice a L.length c) L.length (L.flatMap entC)) (hq : w.cell? ⟨q, 0, none⟩ = some (.int .u64 key)) :
    Calls Try.prog 26 #[.slice a L.length c, .func (.func 27) #[] #[.pointer (some ⟨q, 0, none⟩)]] w fun e w' => e = .returned (.int .i64 (keyI L key)) ∧ Below w.heap.size w w' := by
  have HAT := hide (fun i hi => ents_at hown i hi)
  have HQ := hide hq
  have HQL := hide (World.block_lt_of_cell? w _ hq)
  have HF := hide (fun k h1 h2 h3 => keyI_found L key k h1 h2 h3)
  have HN := hide (keyI_none L key)
  clear hown hq
  go_enter Try.func26, Try.ntmps26
  go_wp2_with fail
  go_loopw [8] (fun i W => ∃ k : Nat, k ≤ L.length ∧ i = .int .i64 k ∧ (∀ j, j < k → (L.getD j ent0).k ≠ key) ∧ Below w.heap.size w W) (fun i _ => L.length - (intOf i).toNat)
  case atStart => exact ⟨0, by omega, rfl, fun j hj => by omega, Below.refl _ _⟩
  case round =>
    obtain ⟨k, hk, rfl, hno, hB⟩ := hrel
    have HB := hide hB
    have HNO := hide hno
    clear hB hno
    by_cases hlt : k < L.length
    · obtain ⟨g, rfl, hg, c0, c1, c2⟩ := HAT.out k hlt
      have d0 := (HB.out.cell (p := ⟨g, k * 3, none⟩) hg).trans c0
      have d1 := (HB.out.cell (p := ⟨g, k * 3 + 1, none⟩) hg).trans c1
      have d2 := (HB.out.cell (p := ⟨g, k * 3 + 2, none⟩) hg).trans c2
      have dq := (HB.out.cell (p := ⟨q, 0, none⟩) HQL.out).trans HQ.out
      have HQW := hide dq
      have HFK := hide (HF.out k hlt)
      clear c0 c1 c2 dq hg
      by_cases hx : (L.getD k ent0).k = key
      · have HX := hide hx
        have HV := hide (HFK.out hx HNO.out)
        rw [hx] at d0
        clear hx
        generalize L.getD k ent0 = x at *
        obtain ⟨xk, xb, xn⟩ := x
        dsimp only at *
        go_wp2_with fail
        refine (find1_yes _ _ _ _ _ HQW.out).mono ?_
        rintro e w1 ⟨rfl, hb⟩
        have HB1 := hide (below_trans HB.out hb)
        clear hb
        go_wp2_with fail
        go_ret
        exact ⟨ret_int HV.out.symm, HB1.out⟩
      · have HX := hide (show ∀ j, j < k + 1 → (L.getD j ent0).k ≠ key from fun j hj => by
          by_cases e : j = k
          · subst e; exact hx
          · exact HNO.out j (by omega))
        have HXX := hide hx
        clear hx
        generalize L.getD k ent0 = x at *
        obtain ⟨xk, xb, xn⟩ := x
        dsimp only at *
        go_wp2_with fail
        refine (find1_no _ _ _ _ HXX.out _ _ HQW.out).mono ?_
        rintro e w1 ⟨rfl, hb⟩
        have HB1 := hide (below_trans HB.out hb)
        clear hb
        go_wp2_with fail
        go_roundw
        case rel => exact ⟨k + 1, by omega, by go_num, HX.out, HB1.out⟩
        case measure => simp [intOf]; omega
    · obtain rfl : k = L.length := by omega
      go_wp2_with fail
      go_ret
      exact ⟨ret_int (HN.out HNO.out).symm, HB.out⟩
end Go.Proofs.Ytmomjefbifoliaa
