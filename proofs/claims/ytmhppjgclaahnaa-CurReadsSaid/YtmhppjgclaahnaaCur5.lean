/-
  Layer 4: write, and the document's Write by contracts.
-/
import Derived.Test.YtmhppjgclaahnaaCur4
import Derived.Test.YtmhppjgclaahnaaRef1
--DBG
namespace Go.Proofs.Ytmhppjgclaahnaa
set_option linter.unusedSimpArgs false
set_option linter.unusedVariables false
open Go.RowKit

/-- fields lie below block B -/
def FldsAt (w : World) (B : Nat) (a : Option Addr) (m : List Fld) : Prop := ∀ i, i < m.length → ∃ g, a = some ⟨g, 0, none⟩ ∧ g < B ∧ ∀ j, j < 4 → w.cell? ⟨g, i * 4 + j, none⟩ = (fc (m.getD i fld0))[j]?
theorem FldsAt.below {w w' : World} {B : Nat} {a : Option Addr} {m : List Fld} (h : FldsAt w B a m) (hb : Below B w w') : FldsAt w' B a m := fun i hi => by
  obtain ⟨g, h1, h2, h3⟩ := h i hi
  exact ⟨g, h1, h2, fun j hj => by rw [hb.cell (p := ⟨g, i * 4 + j, none⟩) h2]; exact h3 j hj⟩
theorem FldsAt.at {w : World} {B : Nat} {a : Option Addr} {m : List Fld} (h : FldsAt w B a m) (i : Nat) (hi : i < m.length) :
    ∃ g, a = some ⟨g, 0, none⟩ ∧ g < B ∧ w.cell? ⟨g, i * 4, none⟩ = some (.int .i64 (m.getD i fld0).k) ∧ w.cell? ⟨g, i * 4 + 1, none⟩ = some (.int .i64 (m.getD i fld0).w) ∧ w.cell? ⟨g, i * 4 + 2, none⟩ = some (.int .u64 (m.getD i fld0).n) ∧ w.cell? ⟨g, i * 4 + 3, none⟩ = some (.string (m.getD i fld0).s) := by
  obtain ⟨g, h1, h2, h3⟩ := h i hi
  exact ⟨g, h1, h2, h3 0 (by omega), h3 1 (by omega), h3 2 (by omega), h3 3 (by omega)⟩
theorem take_getD (m : List Fld) (k : Nat) (h : k < m.length) : m.take (k + 1) = m.take k ++ [m.getD k fld0] := by
  rw [List.take_succ_eq_append_getElem h]
  simp [List.getD, h]
theorem getD_mem (m : List Fld) (k : Nat) (h : k < m.length) : m.getD k fld0 ∈ m := by simp [List.getD, h]
theorem wrap_back (n : Int) (h0 : 0 ≤ n) (h1 : n ≤ 18446744073709551615) : IntKind.u64.wrap (wrap64 n) = n := by
  rw [IntKind.wrap_u64]
  unfold wrap64
  omega
theorem wrap64_bd (n : Int) : -9223372036854775808 ≤ wrap64 n ∧ wrap64 n ≤ 9223372036854775807 := by unfold wrap64; omega
theorem write_nil (m : List Fld) (hm : m.length ≤ 1000) (hg : ∀ x ∈ m, FldGood x) (a : Option Addr) (cap : Nat) (w : World) (hF : FldsAt w w.heap.size a m) :
    Calls Try.prog 34 #[.pointer none, .slice a m.length cap] w fun e w' => e = .returned (.pointer none) ∧ Below w.heap.size w w' := by
  have HF := hide hF
  have HG := hide hg
  clear hF hg
  go_enter Try.func34, Try.ntmps34
  go_wp2_with fail
  go_loopw [0, 9] (fun p i W => ∃ k : Nat, k ≤ m.length ∧ i = .int .i64 k ∧ p = .pointer none ∧ Below w.heap.size w W) (fun _ i _ => m.length - (intOf i).toNat)
  case atStart => exact ⟨0, by omega, rfl, rfl, Below.refl _ _⟩
  case round =>
    obtain ⟨k, hk, rfl, rfl, hB⟩ := hrel
    have HB := hide hB
    by_cases hlt : k < m.length
    · obtain ⟨g, rfl, hgB, c0, c1, c2, c3⟩ := (HF.out.below hB).at k hlt
      obtain ⟨⟨k0, k2⟩, ⟨w0, w1⟩, ⟨n0, n1⟩, hs⟩ := HG.out _ (getD_mem m k hlt)
      generalize m.getD k fld0 = x at *
      obtain ⟨kk, wd, n, s⟩ := x
      simp only at *
      have HA := hide (HB.out.alloc HB.out.size (.cells #[.int .i64 kk, .int .i64 wd, .int .u64 n, .string s] 49))
      have hgw : g < wr.heap.size := Nat.lt_of_lt_of_le hgB HB.out.size
      clear hB hgB
      obtain rfl | rfl | rfl : kk = 0 ∨ kk = 1 ∨ kk = 2 := by omega
      · go_wp2_with fail
        refine (wnumber_nil n n0 n1 wd _).mono ?_
        rintro e w2 ⟨rfl, hb⟩
        have HC := hide (HA.out.trans (hb.mono HA.out.size))
        clear hb
        go_wp2_with fail
        go_roundw
        case rel => exact ⟨k + 1, by omega, by go_num, rfl, HC.out⟩
        case measure => simp [intOf]; omega
      · have hwb := wrap64_bd n
        go_wp2_with fail
        refine (wsigned_nil _ _).mono ?_
        rintro e w2 ⟨rfl, hb⟩
        have HC := hide (HA.out.trans (hb.mono HA.out.size))
        clear hb
        go_wp2_with fail
        go_roundw
        case rel => exact ⟨k + 1, by omega, by go_num, rfl, HC.out⟩
        case measure => simp [intOf]; omega
      · go_wp2_with fail
        refine (wtext_nil s (by omega) _).mono ?_
        rintro e w2 ⟨rfl, hb⟩
        have HC := hide (HA.out.trans (hb.mono HA.out.size))
        clear hb
        go_wp2_with fail
        go_roundw
        case rel => exact ⟨k + 1, by omega, by go_num, rfl, HC.out⟩
        case measure => simp [intOf]; omega
    · obtain rfl : k = m.length := by omega
      clear hB
      go_wp2_with fail
      go_ret
      exact ⟨rfl, HB.out⟩
set_option maxRecDepth 100000 in
set_option maxHeartbeats 1000000 in
theorem write_any (B p : Nat) (m : List Fld) (hm : m.length ≤ 1000) (hg : ∀ x ∈ m, FldGood x) (a : Option Addr) (cap : Nat) (w : World) (hF : FldsAt w B a m) (hW : WrAt w B p [] false) (hBp : B ≤ p) :
    Calls Try.prog 34 #[.pointer (some ⟨p, 0, none⟩), .slice a m.length cap] w fun e w' => e = .returned (.pointer (some ⟨p, 0, none⟩)) ∧ WrAt w' B p (wrFs m).1 (wrFs m).2 ∧ Below B w w' := by
  have HF := hide hF
  have HG := hide hg
  have HW := hide hW
  have hbs := hide (show B ≤ w.heap.size by obtain ⟨a, c, h1, _⟩ := hW; exact Nat.le_trans hBp (Nat.le_of_lt (heap_lt h1)))
  clear hF hg hW
  go_enter Try.func34, Try.ntmps34
  go_wp2_with fail
  go_loopw [0, 9] (fun q i W => ∃ k : Nat, k ≤ m.length ∧ i = .int .i64 k ∧ q = .pointer (some ⟨p, 0, none⟩) ∧ WrAt W B p (wrFs (m.take k)).1 (wrFs (m.take k)).2 ∧ Below B w W) (fun _ i _ => m.length - (intOf i).toNat)
  case atStart => exact ⟨0, by omega, rfl, rfl, HW.out, Below.refl _ _⟩
  case round =>
    obtain ⟨k, hk, rfl, rfl, hWk, hB⟩ := hrel
    have HWK := hide hWk
    have HB := hide hB
    by_cases hlt : k < m.length
    · obtain ⟨g, rfl, hgB, c0, c1, c2, c3⟩ := (HF.out.below hB).at k hlt
      obtain ⟨⟨k0, k2⟩, ⟨w0, w1⟩, ⟨n0, n1⟩, hs⟩ := HG.out _ (getD_mem m k hlt)
      have hnx := hide (show wrFs (m.take (k + 1)) = wrF (wrFs (m.take k)).1 (wrFs (m.take k)).2 (m.getD k fld0) by rw [take_getD m k hlt, wrFs_snoc])
      have hll : (wrFs (m.take k)).1.length ≤ 90000000 := by have := wrFs_len (m.take k); rw [List.length_take] at this; omega
      generalize m.getD k fld0 = x at *
      generalize wrFs (m.take k) = z at *
      obtain ⟨l, bad⟩ := z
      obtain ⟨kk, wd, n, s⟩ := x
      simp only at *
      have hbw := Nat.le_trans hbs.out HB.out.size
      have HA := hide (HB.out.alloc hbw (.cells #[.int .i64 kk, .int .i64 wd, .int .u64 n, .string s] 49))
      have HWA := hide (HWK.out.below (Below.alloc (Below.refl wr.heap.size wr) (Nat.le_refl _) (.cells #[.int .i64 kk, .int .i64 wd, .int .u64 n, .string s] 49)))
      have hgw : g < wr.heap.size := Nat.lt_of_lt_of_le hgB hbw
      clear hB hgB hWk hbw
      obtain rfl | rfl | rfl : kk = 0 ∨ kk = 1 ∨ kk = 2 := by omega
      · have HN := hide (wnumber_any B p l bad hll n n0 n1 wd _ HWA.out hBp)
        have HR := hide (show wrF l bad ⟨0, wd, n, s⟩ = (wrL l (putS n wd) bad (fitsB n.toNat wd), wrB bad (fitsB n.toNat wd)) from rfl)
        go_wp2_with fail
        refine HN.out.mono ?_
        rintro e w2 ⟨rfl, hw, hb⟩
        have HW2 := hide hw
        have HC := hide (HA.out.trans hb)
        clear hb hw HN
        go_wp2_with fail
        go_roundw
        case rel => exact ⟨k + 1, by omega, by go_num, rfl, by rw [hnx.out, HR.out]; exact HW2.out, HC.out⟩
        case measure => simp [intOf]; omega
      · have hwb := wrap64_bd n
        have HN := hide (wsigned_any B p l bad hll (wrap64 n) hwb.1 hwb.2 _ HWA.out hBp)
        have HR := hide (show wrF l bad ⟨1, wd, n, s⟩ = (wrL l (putS n 8) bad (fitsB n.toNat 8), wrB bad (fitsB n.toNat 8)) from rfl)
        have HWB := hide (wrap_back n n0 n1)
        go_wp2_with fail
        refine HN.out.mono ?_
        rintro e w2 ⟨rfl, hw, hb⟩
        rw [HWB.out] at hw
        have HW2 := hide hw
        have HC := hide (HA.out.trans hb)
        clear hb hw HN
        go_wp2_with fail
        go_roundw
        case rel => exact ⟨k + 1, by omega, by go_num, rfl, by rw [hnx.out, HR.out]; exact HW2.out, HC.out⟩
        case measure => simp [intOf]; omega
      · have HN := hide (wtext_any B p l bad hll s (by omega) _ HWA.out hBp)
        have HR := hide (show wrF l bad ⟨2, wd, n, s⟩ = (wrL l (putS (s.size : Int) 1 ++ s.data.toList) bad (decide (s.size ≤ 255)), wrB bad (decide (s.size ≤ 255))) from rfl)
        go_wp2_with fail
        refine HN.out.mono ?_
        rintro e w2 ⟨rfl, hw, hb⟩
        have HW2 := hide hw
        have HC := hide (HA.out.trans hb)
        clear hb hw HN
        go_wp2_with fail
        go_roundw
        case rel => exact ⟨k + 1, by omega, by go_num, rfl, by rw [hnx.out, HR.out]; exact HW2.out, HC.out⟩
        case measure => simp [intOf]; omega
    · obtain rfl : k = m.length := by omega
      rw [List.take_length] at hWk
      have HFIN := hide hWk
      clear hB hWk
      go_wp2_with fail
      go_ret
      exact ⟨rfl, HFIN.out, HB.out⟩
end Go.Proofs.Ytmhppjgclaahnaa
