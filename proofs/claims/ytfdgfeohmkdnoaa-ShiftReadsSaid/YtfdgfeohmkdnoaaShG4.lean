/-
  Layer 26: Copy by contract.
-/
import Derived.Test.YtfdgfeohmkdnoaaShG2
import Derived.Lib.SliceRun
--import Derived.Test.Zdbg
namespace Go.Proofs.Ytfdgfeohmkdnoaa
set_option linter.unusedSimpArgs false
set_option linter.unusedVariables false
open Go.RowKit Go.WideShapes Go.ChangeShapes Go.ChangeAt Go.Deep
def TotsIs (L : List TotM) (w : World) (e : Ending) (w' : World) : Prop := ∃ a c, e = .returned (.slice a L.length c) ∧ w'.ownsRow w.heap.size 43 6 (.slice a L.length c) L.length (L.flatMap totC) ∧ Below w.heap.size w w'
set_option maxRecDepth 100000 in
theorem shclone_any (L : List TotM) (hL : L.length ≤ 1000) (a : Option Addr) (c B : Nat) (w : World) (h : w.ownsRow B 43 6 (.slice a L.length c) L.length (L.flatMap totC)) :
    Calls Try.prog 30 #[.slice a L.length c] w (TotsIs L w) := by
  rcases h.2 with ⟨h1, h2⟩ | ⟨g, cap, cur, hv, hB, hg, hnc, hcm, hsz, ht⟩
  · obtain rfl : L = [] := List.eq_nil_of_length_eq_zero h2
    simp only [Value.slice.injEq] at h1
    obtain ⟨rfl, -, rfl⟩ := h1
    have q52 : ∀ (w : World) (a : Option Addr) (n c n' c' : Nat), (binOp .eql 84 (.slice a n c) (.slice none n' c')).run Try.prog w = .ok (.bool a.isNone) w := fun w a n c n' c' => Lib.run_eql_slice_nil w _ _ a n c n' c' Try.underlying84
    go_enter Try.func30, Try.ntmps30
    go_wp2_with fail
    go_ret
    exact ⟨none, 0, rfl, World.ownsRow_nil _ _ _ _, Below.refl _ _⟩
  · simp only [Value.slice.injEq] at hv
    obtain ⟨rfl, -, rfl⟩ := hv
    obtain ⟨i0, hi, hz0, hz1, hz2⟩ := info_parts (show (Try.prog.info? 43).map (fun i => (i.zero, i.size, i.bytes)) = some (some (.agg #[.int .i64 0, .int .i64 0, .int .i64 0, .int .i64 0, .int .i64 0, .int .i64 0]), 6, 48) by kernel_rfl)
    have HI := hide hi
    have HZ0 := hide hz0
    have HZ1 := hide hz1
    have HZ2 := hide hz2
    have HC := hide (fun j u (hu : (L.flatMap totC)[j]? = some u) => show (w.alloc (.cells #[] 43)).cell? ((⟨g, 0, none⟩ : Addr).add j) = some u from by
      have hc := h.cells (g := g) rfl j u hu
      rw [Go.WideShapes.add_plain, Nat.zero_add] at hc ⊢
      exact cell_keep hc (heap_lt hg) ((Below.refl w.heap.size w).alloc (Nat.le_refl _) (.cells #[] 43)))
    have HN := hide (totsC_length L)
    have HM := hide (World.ownsRow_made (base := w.heap.size) (e := 43) (size := 6) w #[] 0 (Nat.le_refl _) (Nat.zero_le _) (by simp))
    clear hi hz0 hz1 hz2 h hg hnc hcm hsz ht
    have q52 : ∀ (w : World) (a : Option Addr) (n c n' c' : Nat), (binOp .eql 84 (.slice a n c) (.slice none n' c')).run Try.prog w = .ok (.bool a.isNone) w := fun w a n c n' c' => Lib.run_eql_slice_nil w _ _ a n c n' c' Try.underlying84
    go_enter Try.func30, Try.ntmps30
    go_wp2_with (at_builtin; refine wpList_append_own _ rfl _ _ 84 rfl w.heap.size 43 i0 (.agg #[.int .i64 0, .int .i64 0, .int .i64 0, .int .i64 0, .int .i64 0, .int .i64 0]) 6 48 Try.underlying84 HI.out HZ0.out HZ1.out HZ2.out rfl (by decide) _ 0 [] rfl HM.out ⟨g, 0, none⟩ L.length c (L.flatMap totC) rfl HN.out HC.out (totsC_one L) (by rw [Nat.zero_add]; unfold maxLen; omega) (by rw [Nat.zero_add]; omega) (by simp) ?_; intro v' w1 ho hgr hnil; rw [Nat.zero_add, List.nil_append] at ho; obtain ⟨a2, c2, rfl⟩ := owns_slice_n ho; have HO := hide ho; have HB := hide (((Below.refl _ w).alloc (Nat.le_refl _) (.cells #[] 43)).grown hgr (by simp) (fun k hk => Nat.le_of_eq (Option.some.inj hk))); clear ho hgr hnil)
    go_ret
    exact ⟨a2, c2, rfl, HO.out, HB.out⟩
theorem owns_mono {w : World} {B B' e m n : Nat} {v : Value} {xs : List Value} (h : w.ownsRow B e m v n xs) (hB : B' ≤ B) : w.ownsRow B' e m v n xs := by
  refine ⟨h.1, ?_⟩
  rcases h.2 with h3 | ⟨g, cap', cur, hv, hg, h4⟩
  · exact .inl h3
  · exact .inr ⟨g, cap', cur, hv, Nat.le_trans hB hg, h4⟩
def SCopyIs (M : ShM) (w : World) (e : Ending) (w' : World) : Prop := ∃ v, e = .returned (.pointer (some ⟨w.heap.size, 0, none⟩)) ∧ ShIs w' w.heap.size w.heap.size M v ∧ Below w.heap.size w w'
set_option maxRecDepth 100000 in
set_option maxHeartbeats 1000000 in
theorem shcopy_any (B p : Nat) (M : ShM) (V : Value) (w : World) (h : ShIs w B p M V) : Calls Try.prog 9 #[.pointer (some ⟨p, 0, none⟩)] w (SCopyIs M w) := by
  obtain ⟨keep, next, op, ⟨xc, xs, xv, xr, xi, xo⟩, L⟩ := M
  have hk : 1 ≤ keep ∧ keep ≤ 64 := h.ok.kp
  have hf : (L.length : Int) ≤ keep := h.ok.few
  obtain ⟨a, cp, rfl⟩ := owns_split h.row
  have HR0 := hide (show w.ownsRow B 43 6 (.slice a L.length cp) L.length (L.flatMap totC) from h.row)
  have HD := hide (show w.heap[p]? = some (.cells #[.int .i64 keep, .int .i64 next, .bool op, .int .i64 xc, .int .i64 xs, .int .i64 xv, .int .i64 xr, .int .i64 xi, .int .i64 xo, .slice a L.length cp] 86 (0, 0)) from h.head)
  have HOK := hide h.ok
  have hal := (Below.refl w.heap.size w).alloc (Nat.le_refl _) (.cells #[.int .i64 keep, .int .i64 next, .bool op, .int .i64 xc, .int .i64 xs, .int .i64 xv, .int .i64 xr, .int .i64 xi, .int .i64 xo, .slice a L.length cp] 86)
  have N := hide (show (w.alloc (.cells #[.int .i64 keep, .int .i64 next, .bool op, .int .i64 xc, .int .i64 xs, .int .i64 xv, .int .i64 xr, .int .i64 xi, .int .i64 xo, .slice a L.length cp] 86)).heap[p]? = some (.cells #[.int .i64 keep, .int .i64 next, .bool op, .int .i64 xc, .int .i64 xs, .int .i64 xv, .int .i64 xr, .int .i64 xi, .int .i64 xo, .slice a L.length cp] 86 (0, 0)) from (hal.block _ (heap_lt HD.out)).trans HD.out)
  have XN := hide (heap_new w (.cells #[.int .i64 keep, .int .i64 next, .bool op, .int .i64 xc, .int .i64 xs, .int .i64 xv, .int .i64 xr, .int .i64 xi, .int .i64 xo, .slice a L.length cp] 86))
  have HCL := hide (fun W ho => shclone_any L (by omega) a cp B W ho)
  have HR := hide (owns_below HR0.out hal)
  have BB := hide hal
  obtain ⟨⟨c0, c1, c2, c3, c4, c5, c6, c7, c8, c9⟩, -⟩ := sh_facts HD.out
  have hpl := heap_lt HD.out
  clear hal h hf hk
  go_enter Try.func9, Try.ntmps9
  go_upto_region 4 with (fail)
  clear c0 c1 c2 c3 c4 c5 c6 c7 c8 c9 hpl
  generalize w.alloc (.cells #[.int .i64 keep, .int .i64 next, .bool op, .int .i64 xc, .int .i64 xs, .int .i64 xv, .int .i64 xr, .int .i64 xi, .int .i64 xo, .slice a L.length cp] 86) = w1 at *
  generalize hrb : w.heap.size = rb at XN ⊢
  have HBrb := hide (show w.heap.size ≤ rb from by rw [hrb]; exact Nat.le_refl _)
  have HRB := hide hrb
  clear hrb HD HR0
  have c9 := cell_of_block N.out 9
  have hpl := heap_lt N.out
  go_wp2_with fail
  refine (HCL.out _ HR.out).mono ?_
  rintro e w2 ⟨a2, c2, rfl, ho, hb⟩
  have XN2 := hide ((hb.block _ (heap_lt XN.out)).trans XN.out)
  have BB2 := hide (BB.out.trans (hb.mono BB.out.size))
  have HO := hide (owns_mono ho (show w.heap.size ≤ w1.heap.size from BB.out.size))
  have hne : ∀ g, (Value.slice a2 L.length c2).ownBlock = some g → g ≠ rb := fun g hg e => by
    have h1 := (ho.lt g hg).1
    have h2 := heap_lt XN.out
    omega
  have HNE := hide hne
  clear hb ho hne c9 hpl
  have c9 := cell_of_block XN2.out 9
  have f9 := frozen_of_block XN2.out 9
  go_wp2_with fail
  go_ret
  have XN3 := hide (block_setCell XN2.out 9 (.slice a2 L.length c2))
  exact ⟨.slice a2 L.length c2, by rw [HRB.out]; rfl, ⟨by rw [HRB.out]; exact XN3.out, ownsRow_setCell_other HO.out (fun e => HNE.out _ e rfl) _, Nat.le_refl _, HOK.out⟩, BB2.out.setCell (p := ⟨rb, 9, none⟩) HBrb.out _⟩
end Go.Proofs.Ytfdgfeohmkdnoaa
