/-
  Layer 22: the document's accounts; accounts of the law.
-/
import Derived.Test.YtjjldphbflbbdaaPost3
--import Derived.Test.Zdbg
namespace Go.Proofs.Ytjjldphbflbbdaa
set_option linter.unusedSimpArgs false
set_option linter.unusedVariables false
open Go.RowKit Go.WideShapes Go.ChangeShapes Go.ChangeAt Go.Deep

def acC (c : Int) : List Value := [.int .i64 c, .int .u8 1, .string ⟨#[120]⟩]
theorem acC_length (x : Int) : (acC x).length = 3 := rfl
theorem acsC_length (L : List Int) : (L.flatMap acC).length = L.length * 3 := flat_length acC 3 acC_length L
theorem acC_one (x : Int) : ∀ u ∈ acC x, u.oneCell' = true := by
  intro u hu
  simp [acC] at hu
  rcases hu with rfl | rfl | rfl <;> rfl
def AcIn (w : World) (a : Option Addr) (L : List Int) : Prop := ∀ i, i < L.length → ∃ g, a = some ⟨g, 0, none⟩ ∧ g < w.heap.size ∧ w.cell? ⟨g, i * 3, none⟩ = some (.int .i64 (L.getD i 0)) ∧ w.cell? ⟨g, i * 3 + 1, none⟩ = some (.int .u8 1) ∧ w.cell? ⟨g, i * 3 + 2, none⟩ = some (.string ⟨#[120]⟩)
theorem AcIn.below {w w' : World} {a : Option Addr} {L : List Int} (h : AcIn w a L) (hb : Below w.heap.size w w') : AcIn w' a L := fun i hi => by
  obtain ⟨b, ha, hbl, c0, c1, c2⟩ := h i hi
  exact ⟨b, ha, Nat.lt_of_lt_of_le hbl hb.size, cell_keep c0 hbl hb, cell_keep c1 hbl hb, cell_keep c2 hbl hb⟩
theorem AcIn.of_owns {w : World} {B e c : Nat} {a : Option Addr} {L : List Int} (h : w.ownsRow B e 3 (.slice a L.length c) L.length (L.flatMap acC)) : AcIn w a L := fun i hi => by
  obtain ⟨g, rfl, -, hg, hc⟩ := owns_rows acC acC_length 0 h i hi
  exact ⟨g, rfl, hg, hc 0 (by decide), hc 1 (by decide), hc 2 (by decide)⟩
theorem owns_base {w : World} {B B' e n m : Nat} {v : Value} {xs : List Value} (h : w.ownsRow B e n v m xs) (hb : B' ≤ B) : w.ownsRow B' e n v m xs := by
  refine ⟨h.1, ?_⟩
  rcases h.2 with h3 | ⟨g, cap', cur, hv, hB, h4⟩
  · exact .inl h3
  · exact .inr ⟨g, cap', cur, hv, by omega, h4⟩
theorem int_next (L : List Int) (k : Nat) (h : k < L.length) : L.take (k + 1) = L.take k ++ [L.getD k 0] := take_next L k h
set_option maxRecDepth 100000 in
set_option maxHeartbeats 800000 in
theorem rright_x (k : Nat) (hk : 1 ≤ k ∧ k ≤ 100) (w : World) :
    Calls Try.prog 43 #[.agg #[.int .i64 (k : Int), .int .u8 1, .string ⟨#[120]⟩]] w fun e w' => e = .returned (.bool true) ∧ Below w.heap.size w w' := by
  have h1 : ¬ (k : Int) < 1 := by omega
  have h2 : ¬ (65535 : Int) < (k : Int) := by omega
  have X := hide (heap_new w (.cells #[.int .i64 (k : Int), .int .u8 1, .string ⟨#[120]⟩] 79))
  have HB := hide ((Below.refl w.heap.size w).alloc (Nat.le_refl _) (.cells #[.int .i64 (k : Int), .int .u8 1, .string ⟨#[120]⟩] 79))
  go_enter Try.func43, Try.ntmps43
  go_upto_region 1 with (fail)
  generalize w.alloc (.cells #[.int .i64 (k : Int), .int .u8 1, .string ⟨#[120]⟩] 79) = w1 at *
  have c0 := cell_of_block X.out 0
  have c1 := cell_of_block X.out 1
  have c2 := cell_of_block X.out 2
  go_wp2_with fail
  go_loop [3] (fun i => ∃ n : Nat, n ≤ 1 ∧ i = .int .i64 n) (fun i => 1 - (intOf i).toNat)
  case atStart => exact ⟨0, by omega, rfl⟩
  case round =>
    obtain ⟨n, hn, rfl⟩ := hrel
    by_cases h0 : n = 0
    · subst h0
      go_wp2_with fail
      go_round
      case rel => exact ⟨1, by omega, by go_num⟩
      case measure => simp [intOf]
    · obtain rfl : n = 1 := by omega
      go_wp2_with fail
      go_ret
      exact ⟨rfl, HB.out⟩
set_option maxRecDepth 100000 in
set_option maxHeartbeats 800000 in
theorem rfind_any (L : List Int) (hL : L.length ≤ 1000) (code : Int) (a : Option Addr) (cap : Nat) (w : World) (hin : AcIn w a L) :
    Calls Try.prog 33 #[.slice a L.length cap, .int .i64 code] w fun e w' => ∃ r : Int, e = .returned (.int .i64 r) ∧ (0 ≤ r ↔ code ∈ L) ∧ w = w' := by
  have HIN := hide hin
  clear hin
  go_enter Try.func33, Try.ntmps33
  go_wp2_with fail
  go_loop [5] (fun i => ∃ k : Nat, k ≤ L.length ∧ i = .int .i64 k ∧ (∀ j, j < k → L.getD j 0 ≠ code)) (fun i => L.length - (intOf i).toNat)
  case atStart => exact ⟨0, by omega, rfl, fun j hj => absurd hj (Nat.not_lt_zero j)⟩
  case round =>
    obtain ⟨k, hk, rfl, hno⟩ := hrel
    have HNO := hide hno
    clear hno
    by_cases hlt : k < L.length
    · obtain ⟨g, rfl, hg, c0, c1, c2⟩ := HIN.out k hlt
      have HM := hide (show L.getD k 0 ∈ L by simp [List.getD, hlt])
      by_cases hx : L.getD k 0 = code
      · have HX := hide (hx ▸ HM.out)
        rw [hx] at c0
        clear HM hx
        go_wp2_with fail
        go_ret
        exact ⟨k, rfl, ⟨fun _ => HX.out, fun _ => by omega⟩, rfl⟩
      · have HX := hide (show ∀ j, j < k + 1 → L.getD j 0 ≠ code from fun j hj => by
          by_cases e : j = k
          · subst e; exact hx
          · exact HNO.out j (by omega))
        clear HM
        generalize L.getD k 0 = y at *
        go_wp2_with fail
        go_round
        case rel => exact ⟨k + 1, by omega, by go_num, HX.out⟩
        case measure => simp [intOf]; omega
    · obtain rfl : k = L.length := by omega
      go_wp2_with fail
      go_ret
      refine ⟨-1, rfl, ⟨fun h => absurd h (by decide), fun h => ?_⟩, rfl⟩
      obtain ⟨i, hi, he⟩ := List.getElem_of_mem h
      exact absurd (by simp [List.getD, hi, he]) (HNO.out i hi)

set_option maxRecDepth 100000 in
set_option maxHeartbeats 1000000 in
theorem radd_x (L : List Int) (k : Nat) (hk : 1 ≤ k ∧ k ≤ 100) (hL : L.length ≤ 50) (hlow : ∀ x ∈ L, x < (k : Int)) (a : Option Addr) (cap : Nat) (w : World) (hin : AcIn w a L) :
    Calls Try.prog 27 #[.slice a L.length cap, .agg #[.int .i64 (k : Int), .int .u8 1, .string ⟨#[120]⟩]] w fun e w' => ∃ a' c', e = .returned (.tuple #[.slice a' (L.length + 1 : Nat) c', .int .i64 0]) ∧ w'.ownsRow w.heap.size 79 3 (.slice a' (L.length + 1) c') (L.length + 1) ((L ++ [(k : Int)]).flatMap acC) ∧ Below w.heap.size w w' := by
  obtain ⟨i0, hi, hz0, hz1, hz2⟩ := info_parts (show (Try.prog.info? 79).map (fun i => (i.zero, i.size, i.bytes)) = some (some (.agg #[.int .i64 0, .int .u8 0, .string ⟨#[]⟩]), 3, 32) by kernel_rfl)
  have HI := hide hi
  have HZ0 := hide hz0
  have HZ1 := hide hz1
  have HZ2 := hide hz2
  have HIN := hide hin
  have HLW := hide hlow
  have HRT := hide (fun W => rright_x k hk W)
  have HFD := hide (fun W hW => rfind_any L (by omega) (k : Int) a cap W hW)
  have HNM := hide (show ¬ (k : Int) ∈ L from fun h => by have := hlow _ h; omega)
  have X0 := hide (heap_new w (.cells #[.int .i64 (k : Int), .int .u8 1, .string ⟨#[120]⟩] 79))
  have B0 := hide ((Below.refl w.heap.size w).alloc (Nat.le_refl _) (.cells #[.int .i64 (k : Int), .int .u8 1, .string ⟨#[120]⟩] 79))
  have HQ := hide (show w.heap.size = w.heap.size from rfl)
  clear hi hz0 hz1 hz2 hin hlow
  go_enter Try.func27, Try.ntmps27
  go_wp2_with fail
  generalize w.alloc (.cells #[.int .i64 (k : Int), .int .u8 1, .string ⟨#[120]⟩] 79) = w1 at *
  generalize hq : w.heap.size = q at *
  clear HQ
  have HQ := hide hq
  clear hq
  refine (HRT.out _).mono ?_
  rintro e w2 ⟨rfl, hb⟩
  have X2 := hide ((hb.block _ (heap_lt X0.out)).trans X0.out)
  have B2 := hide (B0.out.trans (hb.mono (Nat.le_of_lt (heap_lt X0.out))))
  have I2 := hide (HIN.out.below (by rw [HQ.out]; exact B2.out))
  clear hb X0 B0 HRT
  have e0 := cell_of_block X2.out 0
  go_wp2_with fail
  refine (HFD.out _ I2.out).mono ?_
  rintro e w3 ⟨r, rfl, hr, rfl⟩
  have hr0 : ¬ 0 ≤ r := fun h => HNM.out (hr.1 h)
  clear hr HFD HNM I2
  have hl64 : ¬ (64 : Int) ≤ (L.length : Int) := by omega
  go_wp2_with fail
  have HQL := hide (Nat.le_of_lt (heap_lt X2.out))
  go_loopw [8, 9, 10] (fun s d i W => ∃ (j : Nat) (a8 : Option Addr) (c8 : Nat), j ≤ L.length ∧ d = .bool false ∧ i = .int .i64 j ∧ s = .slice a8 j c8 ∧ W.ownsRow (q + 1) 79 3 (.slice a8 j c8) j ((L.take j).flatMap acC) ∧ W.heap[q]? = some (.cells #[.int .i64 (k : Int), .int .u8 1, .string ⟨#[120]⟩] 79 (0, 0)) ∧ Below q w W) (fun s d i _ => L.length - (intOf i).toNat)
  case atStart => exact ⟨0, none, 0, by omega, rfl, rfl, rfl, World.ownsRow_nil _ _ _ _, X2.out, B2.out⟩
  case round =>
    obtain ⟨j, a8, c8, hj, rfl, rfl, rfl, ho, hx, hb⟩ := hrel
    have HO := hide ho
    have HX := hide hx
    have HB := hide hb
    clear ho hx hb X2 B2 e0
    by_cases hlt : j < L.length
    · have B3 := HB.out
      obtain ⟨g, rfl, hg, c0, c1, c2⟩ := (HIN.out.below (by rw [HQ.out]; exact B3)) j hlt
      have HTN := hide (int_next L j hlt)
      have HLJ := HLW.out _ (show L.getD j 0 ∈ L by simp [List.getD, hlt])
      have e0 := cell_of_block HX.out 0
      generalize L.getD j 0 = y at *
      have hny : ¬ (k : Int) < y := by omega
      have hny2 : decide ((k : Int) < y) = false := decide_eq_false hny
      clear B3
      go_upto_region 14 with (fail)
      go_quiet (fail)
      generalize hv : wr.drewN _ = w4
      have O4 := hide (show w4.ownsRow (q + 1) 79 3 (.slice a8 j c8) j ((L.take j).flatMap acC) by rw [← hv]; exact HO.out)
      have X4 := hide (show w4.heap[q]? = some (.cells #[.int .i64 (k : Int), .int .u8 1, .string ⟨#[120]⟩] 79 (0, 0)) from hv ▸ HX.out)
      have B4 := hide (show Below q w w4 from hv ▸ below_drewN HB.out _)
      have d0 : w4.cell? ⟨g, j * 3, none⟩ = some (.int .i64 y) := hv ▸ c0
      have d1 : w4.cell? ⟨g, j * 3 + 1, none⟩ = some (.int .u8 1) := hv ▸ c1
      have d2 : w4.cell? ⟨g, j * 3 + 2, none⟩ = some (.string ⟨#[120]⟩) := hv ▸ c2
      clear hv HO HX HB c0 c1 c2 e0 hg
      have hq4 : q ≤ w4.heap.size := Nat.le_of_lt (heap_lt X4.out)
      have hal := (Below.refl w4.heap.size w4).alloc (Nat.le_refl _) (.cells #[.int .i64 y, .int .u8 1, .string ⟨#[120]⟩] 79)
      have O5 := hide (owns_below O4.out hal)
      have X5 := hide ((hal.block _ (heap_lt X4.out)).trans X4.out)
      have B5 := hide (B4.out.alloc hq4 (.cells #[.int .i64 y, .int .u8 1, .string ⟨#[120]⟩] 79))
      have XB := hide (heap_new w4 (.cells #[.int .i64 y, .int .u8 1, .string ⟨#[120]⟩] 79))
      have hq5 : q + 1 ≤ (w4.alloc (.cells #[.int .i64 y, .int .u8 1, .string ⟨#[120]⟩] 79)).heap.size := heap_lt X5.out
      have HXN := hide (fun jj (h : (Value.slice a8 j c8).ownBlock = some jj) => (O5.out.lt jj h).1)
      clear hal O4 X4 B4
      go_wp2_with (at_builtin; refine wpList_append_own2 _ rfl _ _ 24 rfl (q + 1) 79 i0 (.agg #[.int .i64 0, .int .u8 0, .string ⟨#[]⟩]) 3 32 Try.underlying24 HI.out HZ0.out HZ1.out HZ2.out rfl (by decide) (.slice a8 j c8) j ((L.take j).flatMap acC) rfl O5.out ⟨w4.heap.size, 0, none⟩ 1 1 (by decide) (acC y) rfl rfl (cells_new XB.out) (acC_one y) (by unfold maxLen; omega) (by omega) hq5 ?_; intro g3 c3' w6 ho hgr hnil; have O6 := hide ho; have B6 := hide (B5.out.grown hgr (Nat.le_of_lt hq5) (fun jj h => Nat.le_of_succ_le (HXN.out jj h))); have X6 := hide ((hgr.block q (heap_lt X5.out) (fun h => by have := HXN.out q h.symm; omega)).trans X5.out); clear ho hgr hnil)
      go_roundw
      case rel => exact ⟨j + 1, _, _, by omega, rfl, by go_num, rfl, by rw [HTN.out, List.flatMap_append]; simpa using O6.out, X6.out, B6.out⟩
      case measure => simp [intOf]; omega
    · obtain rfl : j = L.length := by omega
      rw [List.take_length] at HO
      have e0 := cell_of_block HX.out 0
      have e1 := cell_of_block HX.out 1
      have e2 := cell_of_block HX.out 2
      have hq4 : q ≤ wr.heap.size := Nat.le_of_lt (heap_lt HX.out)
      have hal := (Below.refl wr.heap.size wr).alloc (Nat.le_refl _) (.cells #[.int .i64 (k : Int), .int .u8 1, .string ⟨#[120]⟩] 79)
      have O5 := hide (owns_below HO.out hal)
      have X5 := hide ((hal.block _ (heap_lt HX.out)).trans HX.out)
      have B5 := hide (HB.out.alloc hq4 (.cells #[.int .i64 (k : Int), .int .u8 1, .string ⟨#[120]⟩] 79))
      have XB := hide (heap_new wr (.cells #[.int .i64 (k : Int), .int .u8 1, .string ⟨#[120]⟩] 79))
      have hq5 : q + 1 ≤ (wr.alloc (.cells #[.int .i64 (k : Int), .int .u8 1, .string ⟨#[120]⟩] 79)).heap.size := heap_lt X5.out
      have HXN := hide (fun jj (h : (Value.slice a8 L.length c8).ownBlock = some jj) => (O5.out.lt jj h).1)
      clear hal HO HB
      go_wp2_with (at_builtin; refine wpList_append_own2 _ rfl _ _ 24 rfl (q + 1) 79 i0 (.agg #[.int .i64 0, .int .u8 0, .string ⟨#[]⟩]) 3 32 Try.underlying24 HI.out HZ0.out HZ1.out HZ2.out rfl (by decide) (.slice a8 L.length c8) L.length (L.flatMap acC) rfl O5.out ⟨wr.heap.size, 0, none⟩ 1 1 (by decide) (acC (k : Int)) rfl rfl (cells_new XB.out) (acC_one _) (by unfold maxLen; omega) (by omega) hq5 ?_; intro g3 c3' w6 ho hgr hnil; have O6 := hide ho; have B6 := hide (B5.out.grown hgr (Nat.le_of_lt hq5) (fun jj h => Nat.le_of_succ_le (HXN.out jj h))); clear ho hgr hnil)
      go_ret2
      exact ⟨_, _, rfl, owns_base (by rw [List.flatMap_append]; simpa using O6.out) (by rw [HQ.out]; omega), by rw [HQ.out]; exact B6.out⟩
end Go.Proofs.Ytjjldphbflbbdaa
