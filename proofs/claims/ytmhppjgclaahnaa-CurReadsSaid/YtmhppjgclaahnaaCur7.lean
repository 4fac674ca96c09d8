/-
  Layer 4: a field that is read, by contract.
-/
import Derived.Test.YtmhppjgclaahnaaCur6
namespace Go.Proofs.Ytmhppjgclaahnaa
set_option linter.unusedSimpArgs false
set_option linter.unusedVariables false
open Go.RowKit

theorem RdAt.other {w : World} {r k j : Nat} {s : ByteArray} {bad : Bool} {v : Value} (h : RdAt w r s bad) (hk : r ≠ k) : RdAt (w.setCell ⟨k, j, none⟩ v) r s bad := ⟨by rw [block_setCell_other (Ne.symm hk)]; exact h.row⟩
theorem RdAt.more {w : World} {r : Nat} {s : ByteArray} {bad : Bool} (h : RdAt w r s bad) (o : Obj) : RdAt (w.alloc o) r s bad := ⟨by rw [heap_old _ _ _ (heap_lt h.row)]; exact h.row⟩
theorem Only.from {q : Nat} {a b : World} (h : Only q a b) (hq : q ≤ a.heap.size) : Below q a b := ⟨h.os, h.tape, h.output, h.size, fun k hk => h.block k (by omega) (by omega)⟩
theorem Only.own {q k j : Nat} {a b : World} {v : Value} (h : Only q a b) (hk : a.heap.size ≤ k) : Only q a (b.setCell ⟨k, j, none⟩ v) :=
  ⟨h.os, h.tape, h.output, by simp; exact h.size, fun i hi hq => (block_setCell_other (by omega) j v).trans (h.block i hi hq)⟩
theorem block4 {w : World} {g t : Nat} {a b c d : Value} (h : w.heap[g]? = some (.cells #[a, b, c, d] t (0, 0))) : w.cell? ⟨g, 0, none⟩ = some a ∧ w.cell? ⟨g, 1, none⟩ = some b ∧ w.cell? ⟨g, 2, none⟩ = some c ∧ w.cell? ⟨g, 3, none⟩ = some d ∧
    w.frozen? ⟨g, 0, none⟩ = false ∧ w.frozen? ⟨g, 1, none⟩ = false ∧ w.frozen? ⟨g, 2, none⟩ = false ∧ w.frozen? ⟨g, 3, none⟩ = false :=
  ⟨by rw [cell_of_block h]; rfl, by rw [cell_of_block h]; rfl, by rw [cell_of_block h]; rfl, by rw [cell_of_block h]; rfl, frozen_of_block h 0, frozen_of_block h 1, frozen_of_block h 2, frozen_of_block h 3⟩
/-- what a call of the reader leaves of read's two variables -/
theorem two_cells {w w1 : World} {r : Nat} {o1 o2 o3 : Obj} (h : Only r (((w.alloc o1).alloc o2).alloc o3) w1) (hr : r < w.heap.size) :
    w1.heap[w.heap.size + 1]? = some o2 ∧ w1.heap[w.heap.size + 1 + 1]? = some o3 ∧ Only r w w1 ∧ w.heap.size + 3 ≤ w1.heap.size := by
  have hs : (((w.alloc o1).alloc o2).alloc o3).heap.size = w.heap.size + 3 := by simp
  refine ⟨?_, ?_, ?_, by have := h.size; omega⟩
  · rw [h.block _ (by omega) (by omega), heap_old _ _ _ (by simp)]
    have := heap_new (w.alloc o1) o2
    rwa [show (w.alloc o1).heap.size = w.heap.size + 1 by simp] at this
  · rw [h.block _ (by omega) (by omega)]
    have := heap_new ((w.alloc o1).alloc o2) o3
    rwa [show ((w.alloc o1).alloc o2).heap.size = w.heap.size + 1 + 1 by simp] at this
  · exact (Only.of_below ((((Below.refl w.heap.size w).alloc (by omega) o1).alloc (by simp) o2).alloc (by simp; omega) o3)).trans h
/-- a field as its kind says: what it is, what is left, whether it is wrong -/
def rdF (s : ByteArray) (bad : Bool) (x : Fld) : Fld × ByteArray × Bool :=
  if x.k = 0 then (⟨0, x.w, (getN (last8 (rdNum s bad x.w).1.data.toList) : Int), ⟨#[]⟩⟩, (rdNum s bad x.w).2)
  else if x.k = 1 then (⟨1, x.w, (getN (last8 (rdNum s bad 8).1.data.toList) : Int), ⟨#[]⟩⟩, (rdNum s bad 8).2)
  else (⟨2, x.w, 0, (rdText s bad).1⟩, (rdText s bad).2)
set_option maxRecDepth 100000 in
set_option maxHeartbeats 1000000 in
theorem read_fld (r : Nat) (s : ByteArray) (hs : s.size ≤ 9223372036854775807) (bad : Bool) (x : Fld) (hx : 0 ≤ x.k ∧ x.k ≤ 2) (w : World) (h : RdAt w r s bad) :
    Calls Try.prog 25 #[.pointer (some ⟨r, 0, none⟩), .agg (fc x).toArray] w fun e w' => e = .returned (.agg (fc (rdF s bad x).1).toArray) ∧ RdAt w' r (rdF s bad x).2.1 (rdF s bad x).2.2 ∧ Only r w w' := by
  obtain ⟨k, wd, n, t⟩ := x
  simp only at hx
  have hr := heap_lt h.row
  simp only [fc]
  rcases (show k = 0 ∨ k = 1 ∨ k = 2 by omega) with rfl | rfl | rfl
  · have HN := hide (fun W (hW : RdAt W r s bad) => number_any r s hs bad wd W hW)
    have HZ := hide (show rdF s bad ⟨0, wd, n, t⟩ = (⟨0, wd, (getN (last8 (rdNum s bad wd).1.data.toList) : Int), ⟨#[]⟩⟩, (rdNum s bad wd).2) from if_pos rfl)
    generalize rdF s bad ⟨0, wd, n, t⟩ = Z at *
    generalize rdNum s bad wd = z at *
    have hy := getN_last8_lt z.1.data.toList
    generalize getN (last8 z.1.data.toList) = y at *
    have HR := hide ((((h.more (.cells #[.int .i64 0, .int .i64 wd, .int .u64 n, .string t] 49)).more (.cells #[.int .i64 0, .int .i64 0, .int .u64 0, .string ⟨#[]⟩] 49)).more (.cells #[.int .i64 0, .int .i64 wd, .int .u64 0, .string ⟨#[]⟩] 49)))
    clear h
    go_enter Try.func25, Try.ntmps25
    go_wp2_with fail
    refine (HN.out _ HR.out).mono ?_
    rintro e w1 ⟨rfl, hr1, ho1⟩
    obtain ⟨h4, h5, hb, hsz⟩ := two_cells ho1 hr
    obtain ⟨a0, a1, a2, a3, a4, a5, a6, a7⟩ := block4 h4
    obtain ⟨b0, b1, b2, b3, b4, b5, b6, b7⟩ := block4 h5
    have HR1 := hide hr1
    have HB := hide hb
    clear hr1 ho1 h4 h5 hb HN HR
    go_wp2_with fail
    refine bodyPost_ret (v := .agg #[.int .i64 0, .int .i64 wd, .int .u64 y, .string ⟨#[]⟩]) (by simp [results, Try.results25, go_sem, a0, a1, a2, a3]) rfl ⟨by rw [HZ.out], by rw [HZ.out]; exact ((((HR1.out.other (by omega)).other (by omega)).other (by omega)).other (by omega)).other (by omega), ?_⟩
    exact ((((HB.out.own (by omega)).own (by omega)).own (by omega)).own (by omega)).own (by omega)
  · have HN := hide (fun W (hW : RdAt W r s bad) => signed_any r s hs bad W hW)
    have HZ := hide (show rdF s bad ⟨1, wd, n, t⟩ = (⟨1, wd, (getN (last8 (rdNum s bad 8).1.data.toList) : Int), ⟨#[]⟩⟩, (rdNum s bad 8).2) from rfl)
    generalize rdF s bad ⟨1, wd, n, t⟩ = Z at *
    generalize rdNum s bad 8 = z at *
    have hy := getN_last8_lt z.1.data.toList
    generalize getN (last8 z.1.data.toList) = y at *
    have HWB := hide (wrap_back (y : Int) (by omega) (by omega))
    have HWD := hide (wrap64_bd (y : Int))
    generalize hq : wrap64 (y : Int) = q at *
    have hwb := HWB.out
    rw [IntKind.wrap_u64] at hwb
    have HR := hide ((((h.more (.cells #[.int .i64 1, .int .i64 wd, .int .u64 n, .string t] 49)).more (.cells #[.int .i64 0, .int .i64 0, .int .u64 0, .string ⟨#[]⟩] 49)).more (.cells #[.int .i64 1, .int .i64 wd, .int .u64 0, .string ⟨#[]⟩] 49)))
    clear h
    go_enter Try.func25, Try.ntmps25
    go_wp2_with fail
    refine (HN.out _ HR.out).mono ?_
    rintro e w1 ⟨rfl, hr1, ho1⟩
    obtain ⟨h4, h5, hb, hsz⟩ := two_cells ho1 hr
    obtain ⟨a0, a1, a2, a3, a4, a5, a6, a7⟩ := block4 h4
    obtain ⟨b0, b1, b2, b3, b4, b5, b6, b7⟩ := block4 h5
    have HR1 := hide hr1
    have HB := hide hb
    clear hr1 ho1 h4 h5 hb HN HR
    go_wp2_with fail
    refine bodyPost_ret (v := .agg #[.int .i64 1, .int .i64 wd, .int .u64 (IntKind.u64.wrap q), .string ⟨#[]⟩]) (by simp [results, Try.results25, go_sem, a0, a1, a2, a3]) rfl ⟨by rw [HZ.out, HWB.out], by rw [HZ.out]; exact ((((HR1.out.other (by omega)).other (by omega)).other (by omega)).other (by omega)).other (by omega), ?_⟩
    exact ((((HB.out.own (by omega)).own (by omega)).own (by omega)).own (by omega)).own (by omega)
  · have HN := hide (fun W (hW : RdAt W r s bad) => text_any r s hs bad W hW)
    have HZ := hide (show rdF s bad ⟨2, wd, n, t⟩ = (⟨2, wd, 0, (rdText s bad).1⟩, (rdText s bad).2) from rfl)
    generalize rdF s bad ⟨2, wd, n, t⟩ = Z at *
    generalize rdText s bad = z at *
    have HR := hide ((((h.more (.cells #[.int .i64 2, .int .i64 wd, .int .u64 n, .string t] 49)).more (.cells #[.int .i64 0, .int .i64 0, .int .u64 0, .string ⟨#[]⟩] 49)).more (.cells #[.int .i64 2, .int .i64 wd, .int .u64 0, .string ⟨#[]⟩] 49)))
    clear h
    go_enter Try.func25, Try.ntmps25
    go_wp2_with fail
    refine (HN.out _ HR.out).mono ?_
    rintro e w1 ⟨rfl, hr1, ho1⟩
    obtain ⟨h4, h5, hb, hsz⟩ := two_cells ho1 hr
    obtain ⟨a0, a1, a2, a3, a4, a5, a6, a7⟩ := block4 h4
    obtain ⟨b0, b1, b2, b3, b4, b5, b6, b7⟩ := block4 h5
    have HR1 := hide hr1
    have HB := hide hb
    clear hr1 ho1 h4 h5 hb HN HR
    go_wp2_with fail
    refine bodyPost_ret (v := .agg #[.int .i64 2, .int .i64 wd, .int .u64 0, .string z.1]) (by simp [results, Try.results25, go_sem, a0, a1, a2, a3]) rfl ⟨by rw [HZ.out], by rw [HZ.out]; exact ((((HR1.out.other (by omega)).other (by omega)).other (by omega)).other (by omega)).other (by omega), ?_⟩
    exact ((((HB.out.own (by omega)).own (by omega)).own (by omega)).own (by omega)).own (by omega)
end Go.Proofs.Ytmhppjgclaahnaa
