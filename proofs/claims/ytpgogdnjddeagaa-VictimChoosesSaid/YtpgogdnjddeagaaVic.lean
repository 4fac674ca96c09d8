/-
  Layer 15, the program's calls: slices.Contains; first, by what its closures tell.
-/
import Derived.Test.YtpgogdnjddeagaaRPoolN
import Derived.Test.YtpgogdnjddeagaaWhere4
--import Derived.Test.Zdbg
namespace Go.Proofs.Ytpgogdnjddeagaa
set_option linter.unusedSimpArgs false
set_option linter.unusedVariables false
open Go.RowKit Go.WideShapes Go.ChangeShapes Go.ChangeAt Go.Deep

theorem nums_at {w : World} {k : IntKind} {v : Value} {zs : List Int} (h : NumsAt w k v zs) : ∃ (a : Option Addr) (cap : Nat), v = .slice a zs.length cap ∧ zs.length ≤ cap ∧ ∀ i, i < zs.length → ∃ b off, a = some ⟨b, off, none⟩ ∧ b < w.heap.size ∧ w.cell? ⟨b, off + i, none⟩ = some (.int k (zs.getD i 0)) := by
  rcases h with ⟨rfl, rfl⟩ | ⟨b, off, cap, rfl, hc, hm, hp, hi⟩ | ⟨a, cap, rfl, rfl⟩
  · exact ⟨none, 0, rfl, Nat.le_refl _, fun i hi => by simp at hi⟩
  · exact ⟨some ⟨b, off, none⟩, cap, rfl, hc, fun i hil => ⟨b, off, rfl, World.block_lt_of_cell? w _ (hi i hil), hi i hil⟩⟩
  · exact ⟨some a, cap, rfl, Nat.zero_le _, fun i hi => by simp at hi⟩
theorem NumsAt.below {w w' : World} {k : IntKind} {v : Value} {zs : List Int} (h : NumsAt w k v zs) (hb : Below w.heap.size w w') : NumsAt w' k v zs := by
  rcases h with h | ⟨b, off, cap, rfl, hc, hm, hp, hi⟩ | h
  · exact .inl h
  · exact .inr (.inl ⟨b, off, cap, rfl, hc, hm, hp, fun i hil => cell_keep (hi i hil) (World.block_lt_of_cell? w _ (hi i hil)) hb⟩)
  · exact .inr (.inr h)
theorem NumsAt.drewN {w : World} {k : IntKind} {v : Value} {zs : List Int} (h : NumsAt w k v zs) (n : Nat) : NumsAt (w.drewN n) k v zs := h
set_option maxRecDepth 100000 in
theorem index_any (zs : List Int) (v : Value) (x : Int) (w : World) (hv : NumsAt w .i64 v zs) (hl : zs.length ≤ maxLen) :
    Calls Try.prog 39 #[v, .int .i64 x] w fun e w' => ∃ r : Int, e = .returned (.int .i64 r) ∧ (0 ≤ r ↔ x ∈ zs) ∧ w = w' := by
  obtain ⟨a, cap, rfl, hc, hat⟩ := nums_at hv
  have HAT := hide hat
  have hl63 : zs.length ≤ 9223372036854775807 := by unfold maxLen at hl; exact hl
  clear hat hv hl
  go_enter Try.func39, Try.ntmps39
  go_wp2_with fail
  go_loopw [8] (fun i W => ∃ k : Nat, k ≤ zs.length ∧ i = .int .i64 k ∧ x ∉ zs.take k ∧ w = W) (fun i _ => zs.length - (intOf i).toNat)
  case atStart => exact ⟨0, by omega, rfl, by simp, rfl⟩
  case round =>
    obtain ⟨k, hk, rfl, hx, rfl⟩ := hrel
    have HX := hide hx
    clear hx
    by_cases hlt : k < zs.length
    · obtain ⟨b, off, rfl, hb, c⟩ := HAT.out k hlt
      have HG := hide (show zs.take (k + 1) = zs.take k ++ [zs.getD k 0] by rw [List.take_add_one]; simp [List.getD, hlt])
      have HM := hide (show zs.getD k 0 ∈ zs by simp [List.getD, hlt])
      clear hb
      generalize zs.getD k 0 = y at *
      by_cases hxy : x = y
      · subst hxy
        go_wp2_with fail
        go_ret
        exact ⟨k, rfl, ⟨fun _ => HM.out, fun _ => by omega⟩, rfl⟩
      · go_wp2_with fail
        go_roundw
        case rel => exact ⟨k + 1, by omega, by go_num, by rw [HG.out]; simp only [List.mem_append, List.mem_singleton]; exact ⟨fun h => h.elim HX.out hxy, trivial⟩⟩
        case measure => simp [intOf]; omega
    · obtain rfl : k = zs.length := by omega
      rw [List.take_length] at HX
      go_wp2_with fail
      go_ret
      exact ⟨-1, rfl, ⟨fun h => by omega, fun h => absurd h HX.out⟩, rfl⟩
theorem contains_any (zs : List Int) (v : Value) (x : Int) (w : World) (hv : NumsAt w .i64 v zs) (hl : zs.length ≤ maxLen) :
    Calls Try.prog 25 #[v, .int .i64 x] w fun e w' => e = .returned (.bool (decide (x ∈ zs))) ∧ w = w' := by
  have HI := hide (index_any zs v x w hv hl)
  clear hv hl
  go_enter Try.func25, Try.ntmps25
  go_wp2_with fail
  refine HI.out.mono ?_
  rintro e w1 ⟨r, rfl, hr, rfl⟩
  have HR := hide hr
  clear hr
  go_wp2_with fail
  go_ret
  exact ⟨ret_bb (decide_eq_decide.2 HR.out), rfl⟩
/-- a function with a body is entered -/
def Enters (f : FuncId) : Prop := ∀ (args : Array Value) (W : World), (callFunc f args).run Try.prog W = .ok (.enter f args) W
theorem enters {f : FuncId} {fn : Func} {c : Code} (hf : Try.prog.funcs[f]? = some fn) (hname : (fn.name == "runtime.NumGoroutine") = false) (hb : fn.body = some c) : Enters f := fun args W => by
  have h1 : fn.name ≠ "runtime.NumGoroutine" := by simpa using hname
  simp [callFunc, hf, h1, hb]
/-- the block that no other one comes ahead of, of the first k -/
def firstK (may : Int → Bool) (ahead : Int → Int → Bool) : Nat → Int
  | 0 => -1
  | k + 1 => if may k = true ∧ (firstK may ahead k = -1 ∨ ahead k (firstK may ahead k) = true) then k else firstK may ahead k
theorem firstK_bd (may : Int → Bool) (ahead : Int → Int → Bool) : ∀ k : Nat, -1 ≤ firstK may ahead k ∧ firstK may ahead k < k
  | 0 => by simp [firstK]
  | k + 1 => by
    have := firstK_bd may ahead k
    rw [firstK]
    split <;> omega
set_option maxRecDepth 100000 in
set_option maxHeartbeats 400000 in
theorem first_any (mf af : FuncId) (em : Enters mf) (ea : Enters af) (m1 m2 : Value) (ac : Array Value) (may : Int → Bool) (ahead : Int → Int → Bool) (I : World → Prop) (hI : ∀ W W', I W → Below W.heap.size W W' → I W')
    (hm : ∀ (b : Nat), b < 256 → ∀ W, I W → Calls Try.prog mf #[.int .i64 (b : Int), m1, m2] W fun e w' => e = .returned (.bool (may b)) ∧ Below W.heap.size W w')
    (ha : ∀ (b : Nat) (c : Int), b < 256 → 0 ≤ c → c < 256 → ∀ W, I W → Calls Try.prog af (#[.int .i64 (b : Int), .int .i64 c] ++ ac) W fun e w' => e = .returned (.bool (ahead b c)) ∧ Below W.heap.size W w')
    (w : World) (h : I w) :
    Calls Try.prog 26 #[.func (.func mf) #[] #[m1, m2], .func (.func af) #[] ac] w fun e w' => e = .returned (.int .i64 (firstK may ahead 256)) ∧ Below w.heap.size w w' := by
  have HI := hide hI
  have HM := hide hm
  have HA := hide ha
  unfold Enters at em ea
  have H0 := hide h
  clear hI hm ha h
  go_enter Try.func26, Try.ntmps26
  go_wp2_with fail
  go_loopw [5, 7] (fun s i W => ∃ k : Nat, k ≤ 256 ∧ i = .int .i64 k ∧ s = .int .i64 (firstK may ahead k) ∧ I W ∧ Below w.heap.size w W) (fun _ i _ => 256 - (intOf i).toNat)
  case atStart => exact ⟨0, by omega, rfl, rfl, H0.out, Below.refl _ _⟩
  case round =>
    obtain ⟨k, hk, rfl, rfl, hi, hb⟩ := hrel
    have IK := hide hi
    have BK := hide hb
    clear hi hb H0
    by_cases hlt : k < 256
    · have hbd := firstK_bd may ahead k
      have HN := hide (show firstK may ahead (k + 1) = if may k = true ∧ (firstK may ahead k = -1 ∨ ahead k (firstK may ahead k) = true) then (k : Int) else firstK may ahead k from rfl)
      go_wp2_with fail
      refine (HM.out k hlt wr IK.out).mono ?_
      rintro e w1 ⟨rfl, hb⟩
      have I1 := hide (HI.out _ _ IK.out hb)
      have B1 := hide (BK.out.trans (hb.mono BK.out.size))
      clear hb IK BK
      generalize hmk : may (k : Int) = mk at *
      cases mk with
      | false =>
        go_wp2_with fail
        go_roundw
        case rel => exact ⟨k + 1, by omega, by go_num, by rw [HN.out, if_neg (fun h => absurd h.1 (by decide))], I1.out, B1.out⟩
        case measure => simp [intOf]; omega
      | true =>
        generalize firstK may ahead k = z at *
        by_cases hz : z = -1
        · subst hz
          go_wp2_with fail
          go_roundw
          case rel => exact ⟨k + 1, by omega, by go_num, by rw [HN.out, if_pos (by simp)], I1.out, B1.out⟩
          case measure => simp [intOf]; omega
        · go_wp2_with fail
          refine (HA.out k z hlt (by omega) (by omega) w1 I1.out).mono ?_
          rintro e w2 ⟨rfl, hb⟩
          have I2 := hide (HI.out _ _ I1.out hb)
          have B2 := hide (B1.out.trans (hb.mono B1.out.size))
          clear hb I1 B1
          generalize hma : ahead (k : Int) z = ma at *
          cases ma with
          | false =>
            go_wp2_with fail
            go_roundw
            case rel => exact ⟨k + 1, by omega, by go_num, by rw [HN.out, if_neg (fun h => h.2.elim hz (by decide))], I2.out, B2.out⟩
            case measure => simp [intOf]; omega
          | true =>
            go_wp2_with fail
            go_roundw
            case rel => exact ⟨k + 1, by omega, by go_num, by rw [HN.out, if_pos (by simp)], I2.out, B2.out⟩
            case measure => simp [intOf]; omega
    · obtain rfl : k = 256 := by omega
      rw [show ((256 : Nat) : Int) = 256 from rfl]
      go_wp2_with fail
      go_ret
      exact ⟨rfl, BK.out⟩
end Go.Proofs.Ytpgogdnjddeagaa
