/-
  Layer 28: a list of fields by what may be written of it; the document's num, signed, number.
-/
import Derived.Test.YtkbikflincjhhaaReqPo
import Derived.Test.YtkbikflincjhhaaReq

namespace Go.Proofs.Ytkbikflincjhhaa
set_option linter.unusedSimpArgs false
set_option linter.unusedVariables false
open Go.RowKit Go.WideShapes Go.ChangeShapes Go.ChangeAt Go.Deep
/-- these fields tell these bytes, if all may be -/
structure FQ (m : List Fld) (ok : Bool) (T : List UInt8) : Prop where
  bad : (wrFs m).2 = !ok
  txt : ok = true → (wrFs m).1 = T
  good : ∀ x ∈ m, FldGood x
theorem FQ.nil : FQ [] true [] := ⟨rfl, fun _ => rfl, fun x hx => absurd hx (by simp)⟩
theorem fq_step {m : List Fld} {ok : Bool} {T : List UInt8} (h : FQ m ok T) (x : Fld) (hg : FldGood x) (b : Bool) (S : List UInt8) (hx : ∀ l bad, wrF l bad x = (wrL l S bad b, wrB bad b)) : FQ (m ++ [x]) (ok && b) (T ++ S) := by
  obtain ⟨h1, h2, h3⟩ := h
  refine ⟨?_, ?_, ?_⟩
  · rw [wrFs_snoc, hx, h1]
    cases ok <;> cases b <;> rfl
  · intro hb
    rw [Bool.and_eq_true] at hb
    rw [wrFs_snoc, hx, h1, h2 hb.1, hb.1, hb.2]
    rfl
  · intro y hy
    rcases List.mem_append.1 hy with hy | hy
    · exact h3 y hy
    · rw [List.mem_singleton] at hy; rw [hy]; exact hg
theorem FQ.num {m : List Fld} {ok : Bool} {T : List UInt8} (h : FQ m ok T) (n wd : Int) (hn : 0 ≤ n ∧ n ≤ 18446744073709551615) (hw : 0 ≤ wd ∧ wd ≤ 8) : FQ (m ++ [⟨0, wd, n, ⟨#[]⟩⟩]) (ok && fitsB n.toNat wd) (T ++ putS n wd) :=
  fq_step h _ ⟨by dsimp only; omega, by dsimp only; omega, by dsimp only; omega, by show (0 : Nat) ≤ 300; omega⟩ _ _ fun l bad => by unfold wrF; rw [if_pos rfl]
theorem FQ.sig {m : List Fld} {ok : Bool} {T : List UInt8} (h : FQ m ok T) (n : Int) : FQ (m ++ [⟨1, 0, IntKind.u64.wrap n, ⟨#[]⟩⟩]) ok (T ++ putL (wu n) 8) := by
  have h1 := fq_step h ⟨1, 0, IntKind.u64.wrap n, ⟨#[]⟩⟩ ⟨by dsimp only; omega, by dsimp only; omega, wu64 _, by show (0 : Nat) ≤ 300; omega⟩ (fitsB (IntKind.u64.wrap n).toNat 8) (putS (IntKind.u64.wrap n) 8) (fun l bad => by unfold wrF; rw [if_neg (show ¬ ((1 : Int) = 0) by decide), if_pos rfl])
  rw [fits8, Bool.and_true, show putS (IntKind.u64.wrap n) 8 = putL (wu n) 8 from by unfold putS wu; rw [if_pos (by decide)]; rfl] at h1
  exact h1
theorem FQ.str {m : List Fld} {ok : Bool} {T : List UInt8} (h : FQ m ok T) (s : ByteArray) (hs : s.size ≤ 300) : FQ (m ++ [⟨2, 0, 0, s⟩]) (ok && decide (s.size ≤ 255)) (T ++ (putL s.size 1 ++ s.data.toList)) := by
  have h1 := fq_step h ⟨2, 0, 0, s⟩ ⟨by dsimp only; omega, by dsimp only; omega, by dsimp only; omega, hs⟩ (decide (s.size ≤ 255)) (putS (s.size : Int) 1 ++ s.data.toList) (fun l bad => by unfold wrF; rw [if_neg (show ¬ ((2 : Int) = 0) by decide), if_neg (show ¬ ((2 : Int) = 1) by decide)])
  rw [show putS (s.size : Int) 1 = putL s.size 1 from putS_nat s.size 1 (by decide)] at h1
  exact h1
theorem FQ.ref {m : List Fld} {ok : Bool} {T : List UInt8} (h : FQ m ok T) : refS m = outS ok T ∧ (!(wrFs m).2) = ok := by
  obtain ⟨h1, h2, -⟩ := h
  unfold refS outS
  rw [h1]
  cases ok with
  | false => exact ⟨rfl, rfl⟩
  | true => rw [h2 rfl]; exact ⟨rfl, rfl⟩
theorem FQ.cast {m : List Fld} {ok ok' : Bool} {T T' : List UInt8} (h : FQ m ok T) (h1 : ok = ok') (h2 : T = T') : FQ m ok' T' := by subst h1; subst h2; exact h
theorem fq_kind (k : Int) (h : 0 ≤ k ∧ k ≤ 255) : FQ [⟨0, 1, k, ⟨#[]⟩⟩] true (putL k.toNat 1) := by
  refine (FQ.nil.num k 1 (by omega) (by omega)).cast ?_ ?_
  · unfold fitsB; rw [Bool.true_and]; exact decide_eq_true ⟨by omega, by omega, (show k.toNat < 256 from by omega)⟩
  · unfold putS; rw [if_pos (by decide)]; rfl
theorem FQ.num1 {m : List Fld} {ok : Bool} {T : List UInt8} (h : FQ m ok T) (n : Int) (hn : 0 ≤ n ∧ n ≤ 255) : FQ (m ++ [⟨0, 1, n, ⟨#[]⟩⟩]) ok (T ++ putL n.toNat 1) := by
  refine (h.num n 1 (by omega) (by omega)).cast ?_ ?_
  · rw [show fitsB n.toNat 1 = true from by unfold fitsB; exact decide_eq_true ⟨by omega, by omega, (show n.toNat < 256 from by omega)⟩, Bool.and_true]
  · unfold putS; rw [if_pos (by decide)]; rfl
theorem FQ.num8 {m : List Fld} {ok : Bool} {T : List UInt8} (h : FQ m ok T) (n : Int) (hn : 0 ≤ n ∧ n ≤ 18446744073709551615) : FQ (m ++ [⟨0, 8, n, ⟨#[]⟩⟩]) ok (T ++ putL n.toNat 8) := by
  refine (h.num n 8 hn (by omega)).cast ?_ ?_
  · rw [show fitsB n.toNat 8 = true from by unfold fitsB; exact decide_eq_true ⟨by omega, by omega, (show n.toNat < 18446744073709551616 from by omega)⟩, Bool.and_true]
  · unfold putS; rw [if_pos (by decide)]; rfl
theorem FQ.num2 {m : List Fld} {ok : Bool} {T : List UInt8} (h : FQ m ok T) (n : Int) (hn : inR n) : FQ (m ++ [⟨0, 2, IntKind.u64.wrap n, ⟨#[]⟩⟩]) (ok && fit2 n) (T ++ putL (wu n) 2) := by
  refine (h.num _ 2 (wu64 n) (by omega)).cast ?_ ?_
  · rw [fit2_is n hn]
  · unfold putS wu; rw [if_pos (by decide)]; rfl
theorem FQ.num4 {m : List Fld} {ok : Bool} {T : List UInt8} (h : FQ m ok T) (n : Int) (hn : inR n) : FQ (m ++ [⟨0, 4, IntKind.u64.wrap n, ⟨#[]⟩⟩]) (ok && fit4 n) (T ++ putL (wu n) 4) := by
  refine (h.num _ 4 (wu64 n) (by omega)).cast ?_ ?_
  · rw [fit4_is n hn]
  · unfold putS wu; rw [if_pos (by decide)]; rfl
theorem rnum_any (n wd : Int) (w : World) : Calls Try.prog 22 #[.int .u64 n, .int .i64 wd] w fun e w' => e = .returned (.agg #[.int .i64 0, .int .i64 wd, .int .u64 n, .string ⟨#[]⟩]) ∧ Below w.heap.size w w' := by
  go_enter Try.func22, Try.ntmps22
  go_wp2_with fail
  exact bodyPost_ret (results_cell_row (P := Try.prog) rfl _ _ w.heap.size 89 #[.int .i64 0, .int .i64 wd, .int .u64 n, .string ⟨#[]⟩] (0, 0) (.struct _) rfl (heap_new w _) Try.underlying89 rfl (by kernel_rfl)) rfl ⟨rfl, (Below.refl _ _).alloc (Nat.le_refl _) _⟩
theorem rsigned_any (n : Int) (w : World) : Calls Try.prog 23 #[.int .i64 n] w fun e w' => e = .returned (.agg #[.int .i64 1, .int .i64 0, .int .u64 (IntKind.u64.wrap n), .string ⟨#[]⟩]) ∧ Below w.heap.size w w' := by
  go_enter Try.func23, Try.ntmps23
  go_wp2_with fail
  exact bodyPost_ret (results_cell_row (P := Try.prog) rfl _ _ w.heap.size 89 #[.int .i64 1, .int .i64 0, .int .u64 (IntKind.u64.wrap n), .string ⟨#[]⟩] (0, 0) (.struct _) rfl (heap_new w _) Try.underlying89 rfl (by kernel_rfl)) rfl ⟨rfl, (Below.refl _ _).alloc (Nat.le_refl _) _⟩
theorem number_step (X : ByteArray) (hX : X.size ≤ 8) (k : Nat) (h : k < X.size) :
    IntKind.u64.wrap (IntKind.u64.wrap (256 * (getN (X.data.toList.take k) : Int)) + IntKind.u64.wrap ((X[k]).toNat : Int)) = (getN (X.data.toList.take (k + 1)) : Int) := by
  have hl := size_list X
  have h3 : X.data.toList[k]'(by omega) = X[k] := getElem_list X k h
  have hb : getN (X.data.toList.take k) < 72057594037927936 := by
    have h1 := getN_lt (X.data.toList.take k)
    have h4 : 256 ^ (X.data.toList.take k).length ≤ 256 ^ 7 := Nat.pow_le_pow_right (by omega) (by rw [List.length_take]; omega)
    have h5 : (256 : Nat) ^ 7 = 72057594037927936 := by decide
    omega
  have hx := (X[k]).toNat_lt
  rw [List.take_succ_eq_append_getElem (by omega), getN_snoc, h3]
  generalize getN (X.data.toList.take k) = g at *
  rw [IntKind.wrap_u64, IntKind.wrap_u64, IntKind.wrap_u64]
  omega
theorem rnumber_any (X : ByteArray) (hX : X.size ≤ 8) (w : World) : Calls Try.prog 30 #[.string X] w fun e w' => e = .returned (.int .u64 (getN X.data.toList : Int)) ∧ w = w' := by
  have HX := hide hX
  have HAL := hide (show X.data.toList.take X.size = X.data.toList from List.take_of_length_le (by have := size_list X; omega))
  go_enter Try.func30, Try.ntmps30
  go_wp2_with fail
  go_loop [3, 4] (fun t i => ∃ k : Nat, k ≤ X.size ∧ i = .int .i64 k ∧ t = .int .u64 (getN (X.data.toList.take k) : Int)) (fun _ i => X.size - (intOf i).toNat)
  case atStart => exact ⟨0, by omega, rfl, rfl⟩
  case round =>
    obtain ⟨k, hk, rfl, rfl⟩ := hrel
    by_cases hlt : k < X.size
    · have HST := hide (number_step X HX.out k hlt)
      go_wp2_with fail
      go_round
      case rel => exact ⟨k + 1, by omega, by go_num, congrArg (Value.int .u64) HST.out⟩
      case measure => simp [intOf]; omega
    · obtain rfl : k = X.size := by omega
      rw [HAL.out]
      go_wp2_with fail
      go_ret
      exact ⟨rfl, rfl⟩
end Go.Proofs.Ytkbikflincjhhaa
