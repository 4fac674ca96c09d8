/-
  Layer 4, the program's calls: a writer's Number, Signed, Text, Bytes by contracts.
-/
import Derived.Test.YtbnbfnlfgmlcgaaCur2
namespace Go.Proofs.Ytbnbfnlfgmlcgaa
set_option linter.unusedSimpArgs false
set_option linter.unusedVariables false
open Go.RowKit

/-- what a writer has behind some bytes more -/
def wrL (l b : List UInt8) (bad ok : Bool) : List UInt8 := if bad = true ∨ ok = false then l else l ++ b
def wrB (bad ok : Bool) : Bool := bad || !ok
set_option maxRecDepth 100000 in
theorem put_any5 (B p g : Nat) (l : List UInt8) (bad ok : Bool) (ss : List ByteArray) (b : List UInt8) (hb : allB ss = b) (hlen0 : bad = false → ok = true → l.length + b.length ≤ 100000000) (hss : ss.length ≤ 1000) (n : Nat) (hn : ss.length = n) (cap : Nat) (w : World) (h : WrAt w B p l bad) (hg : w.heap[g]? = some (.cells (ss.map Value.string).toArray 9 (0, 0))) (hBp : B ≤ p) :
    Calls Try.prog 59 #[.pointer (some ⟨p, 0, none⟩), .bool ok, .slice (some ⟨g, 0, none⟩) n cap] w fun e w' => e = .returned (.pointer (some ⟨p, 0, none⟩)) ∧ WrAt w' B p (wrL l b bad ok) (wrB bad ok) ∧ Below B w w' := by
  subst hb hn
  exact put_any4 B p g l bad ok ss hlen0 hss cap w h hg hBp
theorem allB_one (s : ByteArray) : allB [s] = s.data.toList := by simp [allB]
theorem allB_two (s t : ByteArray) : allB [s, t] = s.data.toList ++ t.data.toList := by simp [allB]
theorem putS_le (n wd : Int) : (putS n wd).length ≤ 8 := by
  unfold putS
  split
  · rw [putL_length]; omega
  · simp
set_option maxRecDepth 100000 in
set_option maxHeartbeats 1000000 in
theorem wnumber_any (B p : Nat) (l : List UInt8) (bad : Bool) (hl : l.length ≤ 90000000) (n : Int) (n0 : 0 ≤ n) (n1 : n ≤ 18446744073709551615) (wd : Int) (w : World) (h : WrAt w B p l bad) (hBp : B ≤ p) :
    Calls Try.prog 37 #[.pointer (some ⟨p, 0, none⟩), .int .u64 n, .int .i64 wd] w fun e w' => e = .returned (.pointer (some ⟨p, 0, none⟩)) ∧ WrAt w' B p (wrL l (putS n wd) bad (fitsB n.toNat wd)) (wrB bad (fitsB n.toNat wd)) ∧ Below B w w' := by
  have hpl := putS_le n wd
  have hf := fun W => fits_any n n0 wd W
  have hp := fun W => put_any n n0 n1 wd W
  generalize fitsB n.toNat wd = ok at *
  generalize putS n wd = b at *
  have HF := hide hf
  have HP := hide hp
  have HW := hide h
  have hBs := hide (show B ≤ w.heap.size from by obtain ⟨a, c, h1, _⟩ := h; exact Nat.le_trans hBp (Nat.le_of_lt (heap_lt h1)))
  clear hf hp h
  go_enter Try.func37, Try.ntmps37
  go_wp2_with fail
  refine (HF.out _).mono ?_
  rintro e w1 ⟨rfl, rfl⟩
  go_wp2_with fail
  refine (HP.out _).mono ?_
  rintro e w2 ⟨rfl, hb⟩
  have HB2 := hide hb
  have HA := hide (Below.alloc (Below.refl w2.heap.size w2) (Nat.le_refl _) (.cells #[.string (bs b)] 9))
  have HW2 := hide ((HW.out.below hb).below HA.out)
  have HG := hide (heap_new w2 (.cells #[.string (bs b)] 9))
  clear hb
  go_wp2_with fail
  have hput := put_any5 B p w2.heap.size l bad ok [bs b] b (by rw [allB_one, bs_toList]) (fun _ _ => by omega) (by simp) 1 rfl 1 _ HW2.out HG.out hBp
  refine hput.mono ?_
  rintro e w3 ⟨rfl, hw3, hb3⟩
  have HW3 := hide hw3
  have HB3 := hide ((HB2.out.mono hBs.out).trans ((HA.out.mono (Nat.le_trans hBs.out HB2.out.size)).trans hb3))
  clear hput hw3 hb3
  go_wp2
  go_ret
  exact ⟨rfl, HW3.out, HB3.out⟩
set_option maxRecDepth 100000 in
theorem put_nil (ok : Bool) (v : Value) (w : World) : Calls Try.prog 59 #[.pointer none, .bool ok, v] w fun e w' => e = .returned (.pointer none) ∧ w = w' := by
  go_enter Try.func59, Try.ntmps59
  go_wp2
  go_ret
  exact ⟨rfl, rfl⟩
set_option maxRecDepth 100000 in
theorem wnumber_nil (n : Int) (n0 : 0 ≤ n) (n1 : n ≤ 18446744073709551615) (wd : Int) (w : World) :
    Calls Try.prog 37 #[.pointer none, .int .u64 n, .int .i64 wd] w fun e w' => e = .returned (.pointer none) ∧ Below w.heap.size w w' := by
  have hf := hide (fun W => fits_any n n0 wd W)
  have hp := hide (fun W => put_any n n0 n1 wd W)
  go_enter Try.func37, Try.ntmps37
  go_wp2_with fail
  refine (hf.out _).mono ?_
  rintro e w1 ⟨rfl, rfl⟩
  go_wp2_with fail
  refine (hp.out _).mono ?_
  rintro e w2 ⟨rfl, hb⟩
  have HB := hide hb
  clear hb
  go_wp2_with fail
  refine (put_nil _ _ _).mono ?_
  rintro e w3 ⟨rfl, rfl⟩
  go_wp2
  go_ret
  exact ⟨rfl, HB.out.alloc HB.out.size _⟩
set_option maxRecDepth 100000 in
theorem wsigned_any (B p : Nat) (l : List UInt8) (bad : Bool) (hl : l.length ≤ 90000000) (n : Int) (n0 : -9223372036854775808 ≤ n) (n1 : n ≤ 9223372036854775807) (w : World) (h : WrAt w B p l bad) (hBp : B ≤ p) :
    Calls Try.prog 38 #[.pointer (some ⟨p, 0, none⟩), .int .i64 n] w fun e w' => e = .returned (.pointer (some ⟨p, 0, none⟩)) ∧ WrAt w' B p (wrL l (putS (IntKind.u64.wrap n) 8) bad (fitsB (IntKind.u64.wrap n).toNat 8)) (wrB bad (fitsB (IntKind.u64.wrap n).toNat 8)) ∧ Below B w w' := by
  have hu0 : 0 ≤ IntKind.u64.wrap n := by rw [IntKind.wrap_u64]; omega
  have hu1 : IntKind.u64.wrap n ≤ 18446744073709551615 := by rw [IntKind.wrap_u64]; omega
  have HN := hide (wnumber_any B p l bad hl _ hu0 hu1 8 w h hBp)
  clear h
  go_enter Try.func38, Try.ntmps38
  go_wp2_with fail
  refine HN.out.mono ?_
  rintro e w2 ⟨rfl, hw, hb⟩
  have HW := hide hw
  have HB := hide hb
  clear hw hb
  go_wp2
  go_ret
  exact ⟨rfl, HW.out, HB.out⟩
set_option maxRecDepth 100000 in
theorem wsigned_nil (n : Int) (w : World) : Calls Try.prog 38 #[.pointer none, .int .i64 n] w fun e w' => e = .returned (.pointer none) ∧ Below w.heap.size w w' := by
  have hu0 : 0 ≤ IntKind.u64.wrap n := by rw [IntKind.wrap_u64]; omega
  have hu1 : IntKind.u64.wrap n ≤ 18446744073709551615 := by rw [IntKind.wrap_u64]; omega
  have HN := hide (wnumber_nil _ hu0 hu1 8 w)
  go_enter Try.func38, Try.ntmps38
  go_wp2_with fail
  refine HN.out.mono ?_
  rintro e w2 ⟨rfl, hb⟩
  have HB := hide hb
  clear hb
  go_wp2
  go_ret
  exact ⟨rfl, HB.out⟩
set_option maxRecDepth 100000 in
theorem wbytes_any (B p : Nat) (l : List UInt8) (bad : Bool) (w : World) (h : WrAt w B p l bad) :
    Calls Try.prog 16 #[.pointer (some ⟨p, 0, none⟩)] w fun e w' => e = .returned (.tuple #[.string (if bad = true then ⟨#[]⟩ else bs l), .int .i64 (if bad = true then 2 else 0)]) ∧ w = w' := by
  obtain ⟨a, c, h1, h2⟩ := h
  obtain ⟨c0, c1, f0, f1⟩ := wr_start (B := B) (B' := B) h1
  have hcv := conv_owns h2
  clear h1 h2
  cases bad
  · go_enter Try.func16, Try.ntmps16
    go_wp2
    go_ret2
    exact ⟨rfl, rfl⟩
  · go_enter Try.func16, Try.ntmps16
    go_wp2
    go_ret2
    exact ⟨rfl, rfl⟩
set_option maxRecDepth 100000 in
theorem wbytes_nil (w : World) : Calls Try.prog 16 #[.pointer none] w fun e w' => e = .returned (.tuple #[.string ⟨#[]⟩, .int .i64 1]) ∧ w = w' := by
  go_enter Try.func16, Try.ntmps16
  go_wp2
  go_ret2
  exact ⟨rfl, rfl⟩
end Go.Proofs.Ytbnbfnlfgmlcgaa
