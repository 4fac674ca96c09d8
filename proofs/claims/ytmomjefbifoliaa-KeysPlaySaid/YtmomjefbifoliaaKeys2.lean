/-
  Layer 24, the program's calls: find, Match, right by contract.
-/
import Derived.Test.YtmomjefbifoliaaKeys
--import Derived.Test.Zdbg
namespace Go.Proofs.Ytmomjefbifoliaa
set_option linter.unusedSimpArgs false
set_option linter.unusedVariables false
open Go.RowKit Go.WideShapes Go.ChangeShapes Go.ChangeAt

theorem owns_shape {w : World} {B e n m : Nat} {v : Value} {xs : List Value} (h : w.ownsRow B e m v n xs) : ∃ a c, v = .slice a n c := owns_slice_n h
set_option maxRecDepth 100000 in
theorem find_any (L : List Ent) (hL : L.length ≤ 1000) (p B lim : Nat) (v : Value) (key : Int) (w : World) (h : KeysAt w p B lim L v) :
    Calls Try.prog 20 #[.pointer (some ⟨p, 0, none⟩), .int .u64 key] w fun e w' => e = .returned (.int .i64 (keyI L key)) ∧ Below w.heap.size w w' := by
  obtain ⟨a, c, rfl⟩ := owns_shape h.owns
  have h1 := h.below (below_box (o := .cells #[.int .u64 key] 29) (Below.refl _ _))
  have c1 := h1.cell1
  have HI := hide (indexFunc_any L hL a c B key w.heap.size _ h1.owns (World.cell?_alloc_new _ _ _ _))
  clear h h1
  go_enter Try.func20, Try.ntmps20
  go_wp2_with fail
  refine HI.out.mono ?_
  rintro e w1 ⟨rfl, hb⟩
  have HB := hide (below_box hb)
  clear hb
  go_wp2_with fail
  go_ret
  exact ⟨rfl, HB.out⟩

theorem str_ne' {a b : ByteArray} (h : ¬ a = b) : (a.toList == b.toList) = false := by
  rw [ByteArray.toList_eq, ByteArray.toList_eq, beq_eq_false_iff_ne]
  intro h2
  exact h (ByteArray.ext (Array.toList_inj.1 h2))
theorem ret_ii {a a' b b' : Int} (h : a' = a ∧ b' = b) : Ending.returned (.tuple #[.int .i64 a, .int .i64 b]) = .returned (.tuple #[.int .i64 a', .int .i64 b']) := by rw [h.1, h.2]
set_option maxRecDepth 100000 in
set_option maxHeartbeats 400000 in
theorem match_any (L : List Ent) (hL : L.length ≤ 1000) (p B lim : Nat) (v : Value) (key : Int) (b : ByteArray) (w : World) (h : KeysAt w p B lim L v) :
    Calls Try.prog 12 #[.pointer (some ⟨p, 0, none⟩), .int .u64 key, .string b] w fun e w' => e = .returned (.tuple #[.int .i64 (matchV L key b), .int .i64 (matchE L key b)]) ∧ Below w.heap.size w w' := by
  have HFI := hide (find_any L hL p B lim v key w h)
  rcases keyI_cases L key with ⟨e1, _⟩ | ⟨k, hk, e1, _⟩
  · have HV := hide (show matchV L key b = 0 ∧ matchE L key b = 15 by unfold matchV matchE; rw [e1]; exact ⟨rfl, rfl⟩)
    rw [e1] at HFI
    clear e1 h
    go_enter Try.func12, Try.ntmps12
    go_wp2_with fail
    refine HFI.out.mono ?_
    rintro e w1 ⟨rfl, hb⟩
    have HB := hide hb
    clear hb
    go_wp2_with fail
    go_ret2
    exact ⟨ret_ii HV.out, HB.out⟩
  · obtain ⟨a, c, rfl⟩ := owns_shape h.owns
    have HAT := hide (fun W (hW : KeysAt W p B lim L (.slice a L.length c)) => ents_at hW.owns k hk)
    have HK := hide (fun W (hb : Below w.heap.size w W) => h.below hb)
    rw [e1] at HFI
    have h0 : ¬ (k : Int) < 0 := by omega
    obtain ⟨x, hx⟩ : ∃ x, L.getD k ent0 = x := ⟨_, rfl⟩
    rw [hx] at HAT
    have hki : (k : Int) < (L.length : Int) := by omega
    by_cases hb : x.b = b
    · have HV := hide (show matchV L key b = x.n ∧ matchE L key b = 0 by unfold matchV matchE; rw [e1, if_neg h0, if_neg h0, Int.toNat_natCast, hx, if_pos hb, if_pos hb]; exact ⟨rfl, rfl⟩)
      have HBB := hide hb
      clear e1 h hb hx
      obtain ⟨xk, xb, xn⟩ := x
      dsimp only at *
      go_enter Try.func12, Try.ntmps12
      go_wp2_with fail
      refine HFI.out.mono ?_
      rintro e w1 ⟨rfl, hb⟩
      have hk1 := HK.out _ hb
      have c1 := hk1.cell1
      obtain ⟨g, rfl, hg, d0, d1, d2⟩ := HAT.out _ hk1
      rw [HBB.out] at d1
      have HB := hide hb
      clear hb hk1 hg d0
      go_wp2_with fail
      go_ret2
      exact ⟨ret_ii HV.out, HB.out⟩
    · have HV := hide (show matchV L key b = 0 ∧ matchE L key b = 17 by unfold matchV matchE; rw [e1, if_neg h0, if_neg h0, Int.toNat_natCast, hx, if_neg hb, if_neg hb]; exact ⟨rfl, rfl⟩)
      have hne := str_ne' hb
      clear e1 h hx hb
      obtain ⟨xk, xb, xn⟩ := x
      dsimp only at *
      go_enter Try.func12, Try.ntmps12
      go_wp2_with fail
      refine HFI.out.mono ?_
      rintro e w1 ⟨rfl, hb⟩
      have hk1 := HK.out _ hb
      have c1 := hk1.cell1
      obtain ⟨g, rfl, hg, d0, d1, d2⟩ := HAT.out _ hk1
      have HB := hide hb
      clear hb hk1 hg d0
      go_wp2_with fail
      go_ret2
      exact ⟨ret_ii HV.out, HB.out⟩

/-- may an entry be? -/
def rightE (x : Ent) : Prop := x.b.size ≤ 255 ∧ 1 ≤ x.n ∧ x.n ≤ 4294967295
set_option maxRecDepth 100000 in
theorem eright_yes (k n : Int) (b : ByteArray) (h : rightE ⟨k, b, n⟩) (w : World) :
    Calls Try.prog 19 #[.agg #[.int .u64 k, .string b, .int .i64 n]] w fun e w' => e = .returned (.bool true) ∧ Below w.heap.size w w' := by
  obtain ⟨h1, h2, h3⟩ := h
  dsimp only at h1 h2 h3
  have h4 : (b.size : Int) ≤ 255 := by omega
  go_enter Try.func19, Try.ntmps19
  go_wp2_with fail
  go_ret
  exact ⟨rfl, (Below.refl _ _).alloc (Nat.le_refl _) _⟩
end Go.Proofs.Ytmomjefbifoliaa
