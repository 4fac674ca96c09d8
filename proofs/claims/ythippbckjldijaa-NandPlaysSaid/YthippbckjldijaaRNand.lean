/-
  Layer 5, the document's calls, first part: ready, Read, cut.
-/
import Derived.Test.YthippbckjldijaaMRef6
--import Derived.Test.Zdbg
namespace Go.Proofs.Ythippbckjldijaa
set_option linter.unusedSimpArgs false
set_option linter.unusedVariables false
open Go.RowKit Go.WideShapes Go.ChangeShapes Go.ChangeAt Go.Deep

section
variable {c pq n e a f m cp B : Nat} {G : Nat → Nat} {S : ChipM}
theorem ready_any (b i : Int) (w : World) (h : RefAt w c pq n e a f m cp G B S) :
    Calls Try.prog 41 #[.pointer (some ⟨c, 0, none⟩), .int .i64 b, .int .i64 i] w fun x w' => x = .returned (.int .i64 (askE S b i)) ∧ w = w' := by
  have c0 : w.cell? ⟨c, 0, none⟩ = some (.int .i64 (S.L.length : Int)) := h.cell 0
  have c1 : w.cell? ⟨c, 1, none⟩ = some (.int .i64 (S.pgs : Int)) := h.cell 1
  have c11 : w.cell? ⟨c, 11, none⟩ = some (.bool S.off) := h.cell 11
  obtain ⟨ae, hae⟩ : ∃ ae, askE S b i = ae := ⟨_, rfl⟩
  rw [hae]
  unfold askE at hae
  have HE0 := hide hae
  clear hae h
  generalize S.L.length = l at *
  generalize S.pgs = pg at *
  cases ho : S.off with
  | true =>
    rw [ho] at c11
    have HE := hide (show (9 : Int) = ae by rw [← HE0.out, ho, if_pos rfl])
    clear HE0 ho
    go_enter Try.func41, Try.ntmps41
    go_wp2_with fail
    go_ret
    exact ⟨ret_int HE.out, rfl⟩
  | false =>
    rw [ho] at c11
    by_cases g1 : b < 0
    · have HE := hide (show (3 : Int) = ae by rw [← HE0.out, ho, if_neg (by decide), if_neg (by omega)])
      clear HE0 ho
      go_enter Try.func41, Try.ntmps41
      go_wp2_with fail
      go_ret
      exact ⟨ret_int HE.out, rfl⟩
    · by_cases g2 : (l : Int) ≤ b
      · have HE := hide (show (3 : Int) = ae by rw [← HE0.out, ho, if_neg (by decide), if_neg (by omega)])
        clear HE0 ho
        go_enter Try.func41, Try.ntmps41
        go_wp2_with fail
        go_ret
        exact ⟨ret_int HE.out, rfl⟩
      · by_cases g3 : i < 0
        · have HE := hide (show (3 : Int) = ae by rw [← HE0.out, ho, if_neg (by decide), if_neg (by omega)])
          clear HE0 ho
          go_enter Try.func41, Try.ntmps41
          go_wp2_with fail
          go_ret
          exact ⟨ret_int HE.out, rfl⟩
        · by_cases g4 : (pg : Int) ≤ i
          · have HE := hide (show (3 : Int) = ae by rw [← HE0.out, ho, if_neg (by decide), if_neg (by omega)])
            clear HE0 ho
            go_enter Try.func41, Try.ntmps41
            go_wp2_with fail
            go_ret
            exact ⟨ret_int HE.out, rfl⟩
          · have HE := hide (show (0 : Int) = ae by rw [← HE0.out, ho, if_neg (by decide), if_pos (by omega)])
            clear HE0 ho
            go_enter Try.func41, Try.ntmps41
            go_wp2_with fail
            go_ret
            exact ⟨ret_int HE.out, rfl⟩
/-- pages are of their sizes -/
def Sized (S : ChipM) : Prop := ∀ k i, k < S.L.length → i < S.pgs → ((S.blk k).pages.getD i pg0).1.size = S.size ∧ ((S.blk k).pages.getD i pg0).2.size = 32
theorem ext_left (x y : ByteArray) (k : Nat) (h : x.size = k) : (x ++ y).extract 0 k = x := by
  subst h
  exact ByteArray.extract_append_eq_left rfl
theorem ext_right (x y : ByteArray) (k : Nat) (h : x.size = k) (hy : y.size = 32) : (x ++ y).extract k (k + 32) = y := by
  subst h
  rw [← hy]
  exact ByteArray.extract_append_eq_right rfl rfl
set_option maxHeartbeats 400000 in
theorem rread_any (hs : S.size ≤ 1024) (hz : Sized S) (b i : Int) (w : World) (h : RefAt w c pq n e a f m cp G B S) :
    Calls Try.prog 23 #[.pointer (some ⟨c, 0, none⟩), .int .i64 b, .int .i64 i] w fun x w' => x = .returned (.tuple #[.string (readP S b i).1, .string (readP S b i).2, .int .i64 (askE S b i)]) ∧ Below w.heap.size w w' := by
  have HA := hide (ready_any b i w h)
  by_cases ha : askE S b i = 0
  · obtain ⟨ho, hb0, hb1, hi0, hi1⟩ := askE_in ha
    have HP := hide (show (S.blk b.toNat).pages.getD i.toNat pg0 = readP S b i by unfold readP; rw [if_pos ha])
    obtain ⟨k, rfl⟩ : ∃ k : Nat, (k : Int) = b := ⟨b.toNat, by omega⟩
    obtain ⟨j, rfl⟩ : ∃ j : Nat, (j : Int) = i := ⟨i.toNat, by omega⟩
    rw [Int.toNat_natCast, Int.toNat_natCast] at HP
    have hk : k < S.L.length := by omega
    have hj : j < S.pgs := by omega
    have c2 : w.cell? ⟨c, 2, none⟩ = some (.int .i64 (S.size : Int)) := h.cell 2
    have c3 : w.cell? ⟨c, 3, none⟩ = some (.slice (some ⟨pq, 0, none⟩) S.L.length cp) := h.cell 3
    have d0 := h.at_row k hk
    have e0 := (h.at_page k hk j hj).1
    obtain ⟨z1, z2⟩ := hz k j hk hj
    generalize (S.blk k).pages.getD j pg0 = x at *
    obtain ⟨x1, x2⟩ := x
    simp only at e0 z1 z2
    rw [ha] at HA ⊢
    have HP1 := hide ((ext_left x1 x2 S.size z1).trans (congrArg Prod.fst HP.out))
    have HP2 := hide ((ext_right x1 x2 S.size z1 z2).trans (congrArg Prod.snd HP.out))
    have hsz : (x1 ++ x2).size = S.size + 32 := by rw [ByteArray.size_append, z1, z2]
    try dsimp only at HP1 HP2
    clear HP ha h ho hz z1 z2
    generalize x1 ++ x2 = s at *
    have g1 : (S.size : Int) ≤ (s.size : Int) := by omega
    go_enter Try.func23, Try.ntmps23
    go_wp2_with fail
    refine HA.out.mono ?_
    rintro e w' ⟨rfl, rfl⟩
    go_wp2_with fail
    go_quiet (fail)
    go_wp2_with fail
    go_ret3
    exact ⟨ret_ssi HP1.out.symm HP2.out.symm rfl, below_drewN (Below.refl _ _) _⟩
  · have HP := hide (show pg0 = readP S b i by unfold readP; rw [if_neg ha])
    have HP1 := hide (congrArg Prod.fst HP.out)
    have HP2 := hide (congrArg Prod.snd HP.out)
    dsimp only [pg0] at HP1 HP2
    clear HP h hz
    generalize askE S b i = ae at *
    go_enter Try.func23, Try.ntmps23
    go_wp2_with fail
    refine HA.out.mono ?_
    rintro e w' ⟨rfl, rfl⟩
    go_wp2_with fail
    go_ret3
    exact ⟨ret_ssi HP1.out.symm HP2.out.symm rfl, Below.refl _ _⟩
set_option maxHeartbeats 400000 in
theorem rcut_any (ho : S.off = false) (hf0 : 0 ≤ S.fuse) (hf1 : S.fuse ≤ 9223372036854775807) (w : World) (h : RefAt w c pq n e a f m cp G B S) :
    Calls Try.prog 42 #[.pointer (some ⟨c, 0, none⟩)] w (RefIs c pq n e a f m cp G B (cutS S) (.bool (decide (S.fuse = 1))) w) := by
  have c9 : w.cell? ⟨c, 9, none⟩ = some (.int .i64 S.fuse) := h.cell 9
  have c11 : w.cell? ⟨c, 11, none⟩ = some (.bool S.off) := h.cell 11
  have f9 := h.free 9
  have f11 := h.free 11
  rw [ho] at c11
  by_cases hz : S.fuse = 0
  · rw [show cutS S = S by unfold cutS; rw [if_pos hz], decide_eq_false (show ¬ S.fuse = 1 by omega)]
    rw [hz] at c9
    have HH := hide h
    clear h hz hf0 hf1 ho
    go_enter Try.func42, Try.ntmps42
    go_wp2_with fail
    go_ret
    exact ⟨rfl, HH.out, RTurn.refl _ _⟩
  · obtain ⟨x, hx⟩ : ∃ x, S.fuse - 1 = x := ⟨_, rfl⟩
    have hs1 := h.setHead 9 (.int .i64 x) { S with fuse := x } rfl rfl rfl
    have ht1 := h.turnHead 9 (.int .i64 x)
    have hwf : IntKind.i64.wrap (S.fuse - 1) = x := by rw [IntKind.wrap_i64]; omega
    have hc : cutS S = { S with fuse := x, off := decide (x = 0) } := by
      unfold cutS
      rw [if_neg hz, hx]
      congr 2
      apply propext; omega
    rw [hc, show decide (S.fuse = 1) = decide (x = 0) by congr 1; apply propext; omega]
    by_cases hx0 : x = 0
    · subst hx0
      rw [decide_eq_true (show (0 : Int) = 0 from rfl)] at *
      have HS := hide (hs1.setHead 11 (.bool true) { S with fuse := 0, off := true } rfl rfl rfl)
      have HT := hide (ht1.trans (hs1.turnHead 11 (.bool true)))
      clear h hs1 ht1 hc hx hf0 hf1
      go_enter Try.func42, Try.ntmps42
      go_wp2_with fail
      go_ret
      exact ⟨rfl, HS.out, HT.out⟩
    · rw [decide_eq_false hx0] at *
      rw [show ({ S with fuse := x, off := false } : ChipM) = { S with fuse := x } by rw [← ho]]
      have HS := hide hs1
      have HT := hide ht1
      clear h hs1 ht1 hc hx hf0 hf1 ho
      go_enter Try.func42, Try.ntmps42
      go_wp2_with fail
      go_ret
      exact ⟨rfl, HS.out, HT.out⟩
end
end Go.Proofs.Ythippbckjldijaa
