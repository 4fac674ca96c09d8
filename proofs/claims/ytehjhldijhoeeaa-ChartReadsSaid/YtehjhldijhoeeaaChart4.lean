/-
  Layer 21: List.
-/
import Derived.Test.YtehjhldijhoeeaaChart3

namespace Go.Proofs.Ytehjhldijhoeeaa
set_option linter.unusedSimpArgs false
set_option linter.unusedVariables false
open Go.RowKit Go.WideShapes Go.ChangeShapes Go.ChangeAt Go.Deep
theorem acL_one (x : AcM) : ∀ u ∈ acL x, u.oneCell' = true := by
  intro u hu
  simp [acL] at hu
  rcases hu with rfl | rfl | rfl <;> rfl
theorem acL_len (x : AcM) : (acL x).length = 3 := rfl
/-- accounts in memory -/
def AcsIn (w : World) (a : Option Addr) (M : List AcM) : Prop := ∀ i, i < M.length → ∃ b, a = some ⟨b, 0, none⟩ ∧ b < w.heap.size ∧ w.cell? ⟨b, i * 3, none⟩ = some (.int .i64 (M.getD i ac0).code) ∧ w.cell? ⟨b, i * 3 + 1, none⟩ = some (.int .u8 (M.getD i ac0).kind) ∧ w.cell? ⟨b, i * 3 + 2, none⟩ = some (.string (M.getD i ac0).name)
theorem AcsIn.of_owns {w : World} {B e c : Nat} {a : Option Addr} {M : List AcM} (h : w.ownsRow B e 3 (.slice a M.length c) M.length (M.flatMap acL)) : AcsIn w a M := fun i hi => by
  obtain ⟨g, ha, -, hl, hc⟩ := owns_rows acL acL_len ac0 h i hi
  exact ⟨g, ha, hl, hc 0 (by decide), hc 1 (by decide), hc 2 (by decide)⟩
theorem getA_at {M : List AcM} (h : RisesA M) {i : Nat} (hi : i < M.length) : getA M (M.getD i ac0).code = some (M.getD i ac0) := by
  have hg : M.getD i ac0 = M[i] := by simp [List.getD, hi]
  rw [hg]
  unfold getA
  induction M generalizing i with
  | nil => exact absurd hi (Nat.not_lt_zero i)
  | cons z M ih =>
    have h' : (∀ y ∈ M, z.code < y.code) ∧ RisesA M := List.pairwise_cons.1 h
    cases i with
    | zero => simp [List.find?_cons]
    | succ i =>
      have hi' : i < M.length := by simpa using hi
      have hm : M[i] ∈ M := List.getElem_mem hi'
      have := h'.1 _ hm
      have hne : (z.code == M[i].code) = false := by simp; omega
      show ((z :: M).find? fun x => x.code == M[i].code) = some M[i]
      rw [List.find?_cons, hne]
      exact ih h'.2 hi' (by simp [List.getD, hi'])
theorem codes_at (M : List AcM) (i : Nat) (hi : i < M.length) : (codesA M).getD i 0 = (M.getD i ac0).code := by
  unfold codesA
  simp [List.getD, hi]
def ListIs (M : List AcM) (w : World) (e : Ending) (w' : World) : Prop := ∃ (a : Option Addr) (c : Nat), e = .returned (.slice a M.length c) ∧ w'.ownsRow w.heap.size 31 3 (.slice a M.length c) M.length (M.flatMap acL) ∧ Below w.heap.size w w'
set_option maxRecDepth 100000 in
set_option maxHeartbeats 1000000 in
theorem chlist_any (p bm : Nat) (M : List AcM) (w : World) (h : ChartIs w p bm M) :
    Calls Try.prog 24 #[.pointer (some ⟨p, 0, none⟩)] w (ListIs M w) := by
  obtain ⟨i0, hi, hz0, hz1, hz2⟩ := info_parts (show (Try.prog.info? 31).map (fun i => (i.zero, i.size, i.bytes)) = some (some (acV ac0), 3, 32) by kernel_rfl)
  have HI := hide hi
  have HZ0 := hide hz0
  have HZ1 := hide hz1
  have HZ2 := hide hz2
  have hM64 := h.few
  have HC := hide h
  have HSO := hide (chkeys h)
  have e0 := cell_of_block h.head 0
  clear hi hz0 hz1 hz2 h
  go_enter Try.func24, Try.ntmps24
  go_wp2_with fail
  refine (keys_made (some bm) w).mono ?_
  rintro e w1 ⟨rfl, rfl⟩
  go_wp2_with fail
  refine HSO.out.mono ?_
  rintro e w2 ⟨ka, kc, rfl, ho, hb⟩
  have HKO := hide ho
  have C2 := hide (HC.out.below hb)
  have B2 := hide hb
  have hcl : (codesA M).length = M.length := by unfold codesA; rw [List.length_map]
  have HCL := hide hcl
  clear ho hb HSO e0 hcl HC
  go_wp2_with fail
  go_loopw [3, 15] (fun l i W => ∃ (m : Nat) (a : Option Addr) (c : Nat), m ≤ M.length ∧ l = .slice a m c ∧ i = .int .i64 m ∧ W.ownsRow w.heap.size 31 3 (.slice a m c) m ((M.take m).flatMap acL) ∧ ChartIs W p bm M ∧ W.ownsRow w.heap.size 3 1 (.slice ka M.length kc) (codesA M).length ((codesA M).flatMap fun x => [encZ x]) ∧ Below w.heap.size w W) (fun _ i _ => M.length - (Go.RowKit.intOf i).toNat)
  case atStart => exact ⟨0, none, 0, by omega, rfl, rfl, World.ownsRow_nil _ _ _ _, C2.out, HKO.out, B2.out⟩
  case round =>
    obtain ⟨m, a, c, hm, rfl, rfl, ho, hc, hk, hb⟩ := hrel
    have OA := hide ho
    have CA := hide hc
    have OK := hide hk
    have BA := hide hb
    clear ho hc hk hb HKO C2 B2
    by_cases hlt : m < M.length
    · obtain ⟨g, rfl, -, hgl, hkc⟩ := owns_rows (fun x => [encZ x]) (fun _ => rfl) 0 OK.out m (by rw [HCL.out]; exact hlt)
      have ek : wr.cell? ⟨g, m, none⟩ = some (.int .i64 (M.getD m ac0).code) := by
        have := hkc 0 (by decide)
        rw [Nat.mul_one, Nat.add_zero, codes_at M m hlt] at this
        exact this
      have hin : in64 (M.getD m ac0).code := (CA.out.ok _ (by simp [List.getD, hlt])).code
      have hgv : getV M (M.getD m ac0).code = M.getD m ac0 := by unfold getV; rw [getA_at CA.out.rises hlt]; rfl
      have hlk := CA.out.at1 hin
      rw [hgv] at hlk
      have e0 := cell_of_block CA.out.head 0
      have HTN := hide (show M.take (m + 1) = M.take m ++ [M.getD m ac0] by rw [List.take_succ_eq_append_getElem hlt]; simp [List.getD, hlt])
      generalize M.getD m ac0 = x at *
      have HACL := hide (show acL x = [.int .i64 x.code, .int .u8 x.kind, .string x.name] from rfl)
      unfold acV at hlk
      clear hkc hin hgv
      obtain ⟨xc, xk, xs⟩ := x
      dsimp only at *
      have hal := (Below.refl wr.heap.size wr).alloc (Nat.le_refl _) (.cells #[.int .i64 xc, .int .u8 xk, .string xs] 31)
      have XN := hide (heap_new wr (.cells #[.int .i64 xc, .int .u8 xk, .string xs] 31))
      have OA2 := hide (owns_below OA.out hal)
      have OK2 := hide (owns_below OK.out hal)
      have CA2 := hide (CA.out.below hal)
      have BA2 := hide (BA.out.trans (hal.mono BA.out.size))
      have hw2 : w.heap.size ≤ (wr.alloc (.cells #[.int .i64 xc, .int .u8 xk, .string xs] 31)).heap.size := BA2.out.size
      clear hal OA OK CA BA
      go_wp2_with (at_builtin; refine wpList_append_own2 _ rfl _ _ 64 rfl w.heap.size 31 i0 (acV ac0) 3 32 Try.underlying64 HI.out HZ0.out HZ1.out HZ2.out rfl (by decide) (.slice a m c) m ((M.take m).flatMap acL) rfl OA2.out ⟨wr.heap.size, 0, none⟩ 1 1 (by decide) (acL ⟨xc, xk, xs⟩) rfl rfl (cells_new XN.out) (acL_one _) (by unfold maxLen; omega) (by omega) hw2 ?_; intro g3 c3' w3 ho hgr hnil; have OA3 := hide ho; have OK3 := hide (owns_still OK2.out OA2.out (by decide) hgr); have CA3 := hide (CA2.out.kept ((grown_stays OA2.out hgr CA2.out.head (by decide)).trans CA2.out.head.symm) (grown_other OA2.out hgr CA2.out.lt.1 CA2.out.noCells)); have BA3 := hide (BA2.out.grown hgr BA2.out.size (fun jj hj => (OA2.out.lt jj hj).1)); clear ho hgr hnil)
      go_roundw
      case rel => exact ⟨m + 1, _, _, by omega, rfl, by go_num, by rw [HTN.out, List.flatMap_append]; simpa using OA3.out, CA3.out, OK3.out, BA3.out⟩
      case measure => simp [Go.RowKit.intOf]; omega
    · obtain rfl : M.length = m := by omega
      rw [List.take_length] at OA
      go_wp2_with fail
      go_ret
      exact ⟨a, c, rfl, OA.out, BA.out⟩
end Go.Proofs.Ytehjhldijhoeeaa
