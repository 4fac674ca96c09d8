/-
  Layer 24, the program's calls: Put of a key that is there, List; what the document fixes.
-/
import Derived.Test.YtmomjefbifoliaaKeys4
import Derived.Lib.SliceRun
--import Derived.Test.Zdbg
namespace Go.Proofs.Ytmomjefbifoliaa
set_option linter.unusedSimpArgs false
set_option linter.unusedVariables false
open Go.RowKit Go.WideShapes Go.ChangeShapes Go.ChangeAt

set_option maxRecDepth 100000 in
theorem put_there (xk xn : Int) (xb : ByteArray) (hx : rightE ⟨xk, xb, xn⟩) (L : List Ent) (hL : L.length ≤ 900) (hthere : 0 ≤ keyI L xk) (p B lim : Nat) (v : Value) (w : World) (h : KeysAt w p B lim L v) :
    Calls Try.prog 10 #[.pointer (some ⟨p, 0, none⟩), .agg #[.int .u64 xk, .string xb, .int .i64 xn]] w fun e w' => e = .returned (.int .i64 16) ∧ Below w.heap.size w w' := by
  have HR := hide (fun W => eright_yes xk xn xb hx W)
  have HF := hide (fun W (hW : KeysAt W p B lim L v) => find_any L (by omega) p B lim v xk W hW)
  have KA0 := hide (h.below ((Below.refl w.heap.size w).alloc (Nat.le_refl _) (.cells #[.int .u64 xk, .string xb, .int .i64 xn] 37)))
  have EB0 := hide (heap_new w (.cells #[.int .u64 xk, .string xb, .int .i64 xn] 37))
  have BL0 := hide ((Below.refl w.heap.size w).alloc (Nat.le_refl _) (.cells #[.int .u64 xk, .string xb, .int .i64 xn] 37))
  clear h hx
  generalize keyI L xk = r at *
  go_enter Try.func10, Try.ntmps10
  go_wp2_with fail
  generalize w.alloc (.cells #[.int .u64 xk, .string xb, .int .i64 xn] 37) = w1 at *
  refine (HR.out _).mono ?_
  rintro e w2 ⟨rfl, hb⟩
  have EB1 := hide (entry_block EB0.out hb)
  have KA1 := hide (KA0.out.below hb)
  have BL1 := hide (below_trans BL0.out hb)
  clear hb EB0 KA0 BL0
  have e0 := cell_of_block EB1.out 0
  go_wp2_with fail
  refine (HF.out _ KA1.out).mono ?_
  rintro e w3 ⟨rfl, hb⟩
  have BL2 := hide (below_trans BL1.out hb)
  clear hb e0
  go_wp2_with fail
  go_ret
  exact ⟨rfl, BL2.out⟩

/-- entries in a slice of the call's own -/
def EntsIs (L : List Ent) (w : World) (e : Ending) (w' : World) : Prop := ∃ (a : Option Addr) (c : Nat), e = .returned (.slice a L.length c) ∧ w'.ownsRow w.heap.size 37 3 (.slice a L.length c) L.length (L.flatMap entC) ∧ Below w.heap.size w w'
set_option maxRecDepth 100000 in
theorem clone_any (L : List Ent) (hL : L.length ≤ 1000) (a : Option Addr) (c B : Nat) (w : World) (h : w.ownsRow B 37 3 (.slice a L.length c) L.length (L.flatMap entC)) :
    Calls Try.prog 25 #[.slice a L.length c] w (EntsIs L w) := by
  rcases h.2 with ⟨h1, h2⟩ | ⟨g, cap, cur, hv, hB, hg, hnc, hcm, hsz, ht⟩
  · obtain rfl : L = [] := List.eq_nil_of_length_eq_zero h2
    simp only [Value.slice.injEq] at h1
    obtain ⟨rfl, -, rfl⟩ := h1
    have q52 : ∀ (w : World) (a : Option Addr) (n c n' c' : Nat), (binOp .eql 52 (.slice a n c) (.slice none n' c')).run Try.prog w = .ok (.bool a.isNone) w := fun w a n c n' c' => Lib.run_eql_slice_nil w _ _ a n c n' c' Try.underlying52
    go_enter Try.func25, Try.ntmps25
    go_wp2_with fail
    go_ret
    exact ⟨none, 0, rfl, World.ownsRow_nil _ _ _ _, Below.refl _ _⟩
  · simp only [Value.slice.injEq] at hv
    obtain ⟨rfl, -, rfl⟩ := hv
    obtain ⟨i0, hi, hz0, hz1, hz2⟩ := info_parts (show (Try.prog.info? 37).map (fun i => (i.zero, i.size, i.bytes)) = some (some (.agg #[.int .u64 0, .string ⟨#[]⟩, .int .i64 0]), 3, 32) by kernel_rfl)
    have HI := hide hi
    have HZ0 := hide hz0
    have HZ1 := hide hz1
    have HZ2 := hide hz2
    have HC := hide (fun j u (hu : (L.flatMap entC)[j]? = some u) => show (w.alloc (.cells #[] 37)).cell? ((⟨g, 0, none⟩ : Addr).add j) = some u from by
      have hc := h.cells (g := g) rfl j u hu
      rw [Go.WideShapes.add_plain, Nat.zero_add] at hc ⊢
      exact cell_keep hc (heap_lt hg) ((Below.refl w.heap.size w).alloc (Nat.le_refl _) (.cells #[] 37)))
    have HN := hide (entsC_length L)
    have HM := hide (World.ownsRow_made (base := w.heap.size) (e := 37) (size := 3) w #[] 0 (Nat.le_refl _) (Nat.zero_le _) (by simp))
    clear hi hz0 hz1 hz2 h hg hnc hcm hsz ht
    have q52 : ∀ (w : World) (a : Option Addr) (n c n' c' : Nat), (binOp .eql 52 (.slice a n c) (.slice none n' c')).run Try.prog w = .ok (.bool a.isNone) w := fun w a n c n' c' => Lib.run_eql_slice_nil w _ _ a n c n' c' Try.underlying52
    go_enter Try.func25, Try.ntmps25
    go_wp2_with (at_builtin; refine wpList_append_own _ rfl _ _ 52 rfl w.heap.size 37 i0 (.agg #[.int .u64 0, .string ⟨#[]⟩, .int .i64 0]) 3 32 Try.underlying52 HI.out HZ0.out HZ1.out HZ2.out rfl (by decide) _ 0 [] rfl HM.out ⟨g, 0, none⟩ L.length c (L.flatMap entC) rfl HN.out HC.out (entsC_one L) (by rw [Nat.zero_add]; unfold maxLen; omega) (by rw [Nat.zero_add]; omega) (by simp) ?_; intro v' w1 ho hgr hnil; rw [Nat.zero_add, List.nil_append] at ho; obtain ⟨a2, c2, rfl⟩ := owns_slice_n ho; have HO := hide ho; have HB := hide (((Below.refl _ w).alloc (Nat.le_refl _) (.cells #[] 37)).grown hgr (by simp) (fun k hk => Nat.le_of_eq (Option.some.inj hk))); clear ho hgr hnil)
    go_ret
    exact ⟨a2, c2, rfl, HO.out, HB.out⟩
set_option maxRecDepth 100000 in
theorem list24_any (L : List Ent) (hL : L.length ≤ 1000) (p B lim : Nat) (v : Value) (w : World) (h : KeysAt w p B lim L v) :
    Calls Try.prog 17 #[.pointer (some ⟨p, 0, none⟩)] w (EntsIs L w) := by
  obtain ⟨a, c, rfl⟩ := owns_shape h.owns
  have HCL := hide (clone_any L hL a c B w h.owns)
  have c1 := h.cell1
  clear h
  go_enter Try.func17, Try.ntmps17
  go_wp2_with fail
  refine HCL.out.mono ?_
  rintro e w1 ⟨a2, c2, rfl, ho, hb⟩
  have HO := hide ho
  have HB := hide hb
  clear ho hb
  go_wp2_with fail
  go_ret
  exact ⟨a2, c2, rfl, HO.out, HB.out⟩

/-- what Put turns lies from the base on -/
theorem put_below {p B lim : Nat} {L : List Ent} {v : Value} {w w' : World} (h : KeysAt w p B lim L v) (ho : OnlyL (p :: v.ownBlock.toList) w w') (hB : B ≤ w.heap.size) : Below B w w' :=
  ⟨ho.os, ho.tape, ho.output, ho.size, fun k hk => ho.block k (Nat.lt_of_lt_of_le hk hB) (by
    intro hm
    rcases List.mem_cons.1 hm with rfl | hm
    · have := h.base; omega
    · cases hv : v.ownBlock with
      | none => rw [hv] at hm; simp at hm
      | some g =>
        rw [hv] at hm
        simp at hm
        subst hm
        have := (h.owns.lt k hv).1
        omega)⟩
set_option maxRecDepth 100000 in
set_option maxHeartbeats 400000 in
theorem wakes24 (w : World) : Calls Try.prog 7 #[] w fun e w' => e = .returned (.bool true) ∧ Below w.heap.size w w' := by
  have HNEW := hide (new_ok 1 (by decide) (by decide) w)
  have HP1 := hide (fun p v W h (hB : w.heap.size ≤ W.heap.size) => put_ok 5 1 ⟨#[97]⟩ (by unfold rightE; decide) [] (by decide) (by decide) 1 (by decide) (by decide) (by decide) p w.heap.size v W h hB)
  have e1 : putL' [] 1 ⟨5, ⟨#[97]⟩, 1⟩ = [⟨5, ⟨#[97]⟩, 1⟩] := rfl
  rw [e1] at HP1
  have HP2 := hide (fun p v W h (hB : w.heap.size ≤ W.heap.size) => put_ok 6 2 ⟨#[97]⟩ (by unfold rightE; decide) [⟨5, ⟨#[97]⟩, 1⟩] (by decide) (by decide) 1 (by decide) (by decide) (by decide) p w.heap.size v W h hB)
  have e2 : putL' [⟨5, ⟨#[97]⟩, 1⟩] 1 ⟨6, ⟨#[97]⟩, 2⟩ = [⟨6, ⟨#[97]⟩, 2⟩] := rfl
  rw [e2] at HP2
  have HM1 := hide (fun p v W h => match_any [⟨5, ⟨#[97]⟩, 1⟩] (by decide) p w.heap.size 1 v 5 ⟨#[97]⟩ W h)
  have e3 : matchV [⟨5, ⟨#[97]⟩, 1⟩] 5 ⟨#[97]⟩ = 1 ∧ matchE [⟨5, ⟨#[97]⟩, 1⟩] 5 ⟨#[97]⟩ = 0 := by constructor <;> decide
  rw [e3.1, e3.2] at HM1
  have HM2 := hide (fun p v W h => match_any [⟨5, ⟨#[97]⟩, 1⟩] (by decide) p w.heap.size 1 v 5 ⟨#[98]⟩ W h)
  have e4 : matchV [⟨5, ⟨#[97]⟩, 1⟩] 5 ⟨#[98]⟩ = 0 ∧ matchE [⟨5, ⟨#[97]⟩, 1⟩] 5 ⟨#[98]⟩ = 17 := by constructor <;> decide
  rw [e4.1, e4.2] at HM2
  have HM3 := hide (fun p v W h => match_any [⟨6, ⟨#[97]⟩, 2⟩] (by decide) p w.heap.size 1 v 5 ⟨#[97]⟩ W h)
  have e5 : matchV [⟨6, ⟨#[97]⟩, 2⟩] 5 ⟨#[97]⟩ = 0 ∧ matchE [⟨6, ⟨#[97]⟩, 2⟩] 5 ⟨#[97]⟩ = 15 := by constructor <;> decide
  rw [e5.1, e5.2] at HM3
  clear e1 e2 e3 e4 e5
  go_enter Try.func7, Try.ntmps7
  go_wp2_with fail
  refine HNEW.out.mono ?_
  rintro e w1 ⟨p, rfl, h1, hb⟩
  have K1 := hide h1
  have B1 := hide hb
  clear h1 hb
  go_wp2_with fail
  refine (HP1.out p _ _ K1.out B1.out.size).mono ?_
  rintro e w2 ⟨v2, rfl, h2, ho, -⟩
  have B2 := hide (B1.out.trans (put_below K1.out ho B1.out.size))
  have K2 := hide h2
  clear h2 ho
  go_wp2_with fail
  refine (HM1.out p _ _ K2.out).mono ?_
  rintro e w3 ⟨rfl, hb⟩
  have K3 := hide (K2.out.below hb)
  have B3 := hide (below_trans B2.out hb)
  clear hb
  go_wp2_with fail
  refine (HM2.out p _ _ K3.out).mono ?_
  rintro e w4 ⟨rfl, hb⟩
  have K4 := hide (K3.out.below hb)
  have B4 := hide (below_trans B3.out hb)
  clear hb
  go_wp2_with fail
  refine (HP2.out p _ _ K4.out B4.out.size).mono ?_
  rintro e w5 ⟨v5, rfl, h5, ho, -⟩
  have B5 := hide (B4.out.trans (put_below K4.out ho B4.out.size))
  have K5 := hide h5
  clear h5 ho
  go_wp2_with fail
  refine (HM3.out p _ _ K5.out).mono ?_
  rintro e w6 ⟨rfl, hb⟩
  have B6 := hide (below_trans B5.out hb)
  clear hb
  go_wp2_with fail
  go_ret
  exact ⟨rfl, B6.out⟩
end Go.Proofs.Ytmomjefbifoliaa
