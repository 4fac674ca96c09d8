/-
  Layer 4, the program's calls: a writer's calls keep all rows of other types.
-/
import Derived.Test.YtbnbfnlfgmlcgaaCur3
import Derived.Test.YtbnbfnlfgmlcgaaKitP
namespace Go.Proofs.Ytbnbfnlfgmlcgaa
set_option linter.unusedSimpArgs false
set_option linter.unusedVariables false
open Go.RowKit

set_option maxRecDepth 100000 in
set_option maxHeartbeats 1000000 in
theorem put_k4 (B p g : Nat) (l : List UInt8) (bad ok : Bool) (ss : List ByteArray) (hlen0 : bad = false → ok = true → l.length + (allB ss).length ≤ 100000000) (hss : ss.length ≤ 1000) (cap : Nat) (w : World) (h : WrAt w B p l bad) (hg : w.heap[g]? = some (.cells (ss.map Value.string).toArray 9 (0, 0))) (hBp : B ≤ p) :
    Calls Try.prog 59 #[.pointer (some ⟨p, 0, none⟩), .bool ok, .slice (some ⟨g, 0, none⟩) ss.length cap] w fun e w' => e = .returned (.pointer (some ⟨p, 0, none⟩)) ∧ WrAt w' B p (if bad = true ∨ ok = false then l else l ++ allB ss) (bad || !ok) ∧ Below B w w' ∧ KeepsT [5, 57] w w' := by
  obtain ⟨a, c, h1, h2⟩ := h
  obtain ⟨c0, c1, f0, f1⟩ := wr_start (B := B) (B' := B) h1
  have hBs : B ≤ w.heap.size := Nat.le_trans hBp (Nat.le_of_lt (heap_lt h1))
  have hset : (w.setCell ⟨p, 1, none⟩ (.bool (bad || !ok))).heap[p]? = some (.cells #[.slice a l.length c, .bool (bad || !ok)] 57 (0, 0)) := by rw [block_setCell h1]; rfl
  have hown : (w.setCell ⟨p, 1, none⟩ (.bool (bad || !ok))).ownsRow B 5 1 (.slice a l.length c) l.length (u8s l) := ownsRow_setCell_other h2 (owns_other h2 h1 (by decide)) _
  have hBel : Below B w (w.setCell ⟨p, 1, none⟩ (.bool (bad || !ok))) := (Below.refl _ _).setCell hBp _
  have hkt : KeepsT [5, 57] w (w.setCell ⟨p, 1, none⟩ (.bool (bad || !ok))) := KeepsT.setCell h1 (by simp) _ _
  by_cases hc : bad = true ∨ ok = false
  · rw [if_pos hc]
    have hb : (bad || !ok) = true := by rcases hc with rfl | rfl <;> simp
    rw [hb] at hset hown hBel hkt ⊢
    have HSET := hide hset
    have HOWN := hide hown
    have HBEL := hide hBel
    have HKT := hide hkt
    clear h1 h2 hset hown hBel hkt hg hBs hlen0
    rcases hc with rfl | rfl
    · go_enter Try.func59, Try.ntmps59
      go_wp2
      go_ret
      exact ⟨rfl, ⟨a, c, HSET.out, HOWN.out⟩, HBEL.out, HKT.out⟩
    · cases bad
      all_goals
        go_enter Try.func59, Try.ntmps59
        go_wp2
        go_ret
        exact ⟨rfl, ⟨a, c, HSET.out, HOWN.out⟩, HBEL.out, HKT.out⟩
  · rw [if_neg hc]
    obtain ⟨rfl, rfl⟩ : bad = false ∧ ok = true := by cases bad <;> cases ok <;> simp at hc ⊢
    have hlen := hlen0 rfl rfl
    clear hlen0
    have hgp : g ≠ p := by
      rintro rfl
      rw [h1] at hg
      simp only [Option.some.injEq, Obj.cells.injEq] at hg
      exact absurd hg.2.1 (by decide)
    rw [show (false || !true) = false from rfl] at hset hown hBel hkt ⊢
    have hg2 : (w.setCell ⟨p, 1, none⟩ (.bool false)).heap[g]? = some (.cells (ss.map Value.string).toArray 9 (0, 0)) := by rw [block_setCell_other (Ne.symm hgp)]; exact hg
    have HSET := hide hset
    have HOWN := hide hown
    have HBEL := hide hBel
    have HKT := hide hkt
    have HG2 := hide hg2
    have HGP := hide hgp
    clear h1 h2 hset hown hBel hkt hg hBs hg2 hgp hc
    go_enter Try.func59, Try.ntmps59
    go_wp2_with fail
    clear c0 f0 f1 c1
    obtain ⟨i0, hi, hz0, hz1, hz2⟩ := info_parts (show (Try.prog.info? 5).map (fun i => (i.zero, i.size, i.bytes)) = some (some (.int .u8 0), 1, 1) by kernel_rfl)
    have HI := hide hi
    have HZ0 := hide hz0
    have HZ1 := hide hz1
    have HZ2 := hide hz2
    clear hi hz0 hz1 hz2
    go_loopw [29] (fun i W => ∃ k : Nat, k ≤ ss.length ∧ i = .int .i64 k ∧ WrAt W B p (l ++ allB (ss.take k)) false ∧ W.heap[g]? = some (.cells (ss.map Value.string).toArray 9 (0, 0)) ∧ Below B w W ∧ KeepsT [5, 57] w W) (fun i _ => ss.length - (intOf i).toNat)
    case atStart => exact ⟨0, by omega, rfl, ⟨a, c, by simpa [allB] using HSET.out, by simpa [allB] using HOWN.out⟩, HG2.out, HBEL.out, HKT.out⟩
    case round =>
      clear HSET HOWN HBEL HG2 HKT
      obtain ⟨k, hk, rfl, hW, hg, hB, hkk⟩ := hrel
      have HKK := hide hkk
      clear hkk
      have HW := hide hW
      have HG := hide hg
      have HB := hide hB
      have hat := allB_take ss k
      by_cases hlt : k < ss.length
      · obtain ⟨a1, c1, h1, h2⟩ := hW
        obtain ⟨e0, e1, e2, e3⟩ := wr_start (B := B) (B' := B) h1
        have hcell : wr.cell? ⟨g, k, none⟩ = some (.string (ss.getD k ⟨#[]⟩)) := by
          rw [cell_of_block hg]; simp [List.getD, hlt]
        have hat2 := allB_take ss (k + 1)
        have hsn := allB_snoc ss k hlt
        have hnx := hide (show l ++ allB (ss.take (k + 1)) = (l ++ allB (ss.take k)) ++ (ss.getD k ⟨#[]⟩).data.toList by rw [hsn, List.append_assoc])
        rw [hsn, List.length_append, size_list] at hat2
        generalize ss.getD k ⟨#[]⟩ = s at *
        have hBw := hide (show B ≤ wr.heap.size from Nat.le_trans hBp (Nat.le_of_lt (heap_lt h1)))
        have hne := hide (owns_other h2 h1 (by decide))
        have hng := hide (owns_other h2 hg (by decide))
        have hlp := hide (heap_lt h1)
        have hlg := hide (heap_lt hg)
        have H1 := hide h1
        have H2 := hide h2
        have hge := hide (owns_ge h2)
        have hcnt : (l ++ allB (ss.take k)).length + s.size ≤ 100000000 := by rw [List.length_append]; omega
        generalize l ++ allB (ss.take k) = L at *
        clear hg hB hsn h1 h2 hat hat2
        go_wp2_with (at_builtin; refine Lib.wpList_append_own_string _ rfl _ _ _ _ rfl B 5 i0 Try.underlying44 Try.underlying9 HI.out HZ0.out HZ1.out HZ2.out (.slice a1 L.length c1) L.length (u8s L) rfl H2.out s rfl (by unfold maxLen; omega) (by omega) hBw.out ?_; intro v' w' ho hgr hnil; obtain ⟨a2, c2, rfl⟩ := owns_slice ho; clear hnil; obtain ⟨k1, k2, k3, k4, k5⟩ := wr_put H1.out H2.out HG.out HGP.out hBp hgr ho; have K3 := hide k3; have K4 := hide k4; have K5 := hide k5; have hp9 := hgr.block p hlp.out (fun h => hne.out h.symm); have K6 := hide ((KeepsT.grown (Ts := [5, 57]) H2.out (by simp) hgr).trans (KeepsT.setCell (Ts := [5, 57]) (hp9.trans H1.out) (by simp) 0 (.slice a2 (L.length + s.size) c2))); clear k3 k4 k5 ho hgr hp9)
        go_roundw
        case rel => exact ⟨k + 1, by omega, by go_num, by rw [hnx.out]; exact K3.out, K4.out, HB.out.trans K5.out, HKK.out.trans K6.out⟩
        case measure => simp [intOf]; omega
      · obtain rfl : k = ss.length := by omega
        have HF := hide (show WrAt wr B p (l ++ allB ss) false by have := HW.out; rwa [List.take_length] at this)
        clear hg hB
        go_wp2_with fail
        go_ret
        exact ⟨rfl, HF.out, HB.out, HKK.out⟩
set_option maxRecDepth 100000 in
theorem put_k5 (B p g : Nat) (l : List UInt8) (bad ok : Bool) (ss : List ByteArray) (b : List UInt8) (hb : allB ss = b) (hlen0 : bad = false → ok = true → l.length + b.length ≤ 100000000) (hss : ss.length ≤ 1000) (n : Nat) (hn : ss.length = n) (cap : Nat) (w : World) (h : WrAt w B p l bad) (hg : w.heap[g]? = some (.cells (ss.map Value.string).toArray 9 (0, 0))) (hBp : B ≤ p) :
    Calls Try.prog 59 #[.pointer (some ⟨p, 0, none⟩), .bool ok, .slice (some ⟨g, 0, none⟩) n cap] w fun e w' => e = .returned (.pointer (some ⟨p, 0, none⟩)) ∧ WrAt w' B p (wrL l b bad ok) (wrB bad ok) ∧ Below B w w' ∧ KeepsT [5, 57] w w' := by
  subst hb hn
  exact put_k4 B p g l bad ok ss hlen0 hss cap w h hg hBp
set_option maxRecDepth 100000 in
set_option maxHeartbeats 1000000 in
theorem wnumber_k (B p : Nat) (l : List UInt8) (bad : Bool) (hl : l.length ≤ 90000000) (n : Int) (n0 : 0 ≤ n) (n1 : n ≤ 18446744073709551615) (wd : Int) (w : World) (h : WrAt w B p l bad) (hBp : B ≤ p) :
    Calls Try.prog 37 #[.pointer (some ⟨p, 0, none⟩), .int .u64 n, .int .i64 wd] w fun e w' => e = .returned (.pointer (some ⟨p, 0, none⟩)) ∧ WrAt w' B p (wrL l (putS n wd) bad (fitsB n.toNat wd)) (wrB bad (fitsB n.toNat wd)) ∧ Below B w w' ∧ KeepsT [5, 57] w w' := by
  have hpl := putS_le n wd
  have hf := fun W => fits_any n n0 wd W
  have hp := fun W => put_any n n0 n1 wd W
  generalize fitsB n.toNat wd = ok at *
  generalize putS n wd = b at *
  have HF := hide hf
  have HP := hide hp
  have HW := hide h
  have hBs := hide (show B ≤ w.heap.size from by obtain ⟨a, c, h1, _⟩ := h; exact Nat.le_trans hBp (Nat.le_of_lt (heap_lt h1)))
  clear hf hp h
  go_enter Try.func37, Try.ntmps37
  go_wp2_with fail
  refine (HF.out _).mono ?_
  rintro e w1 ⟨rfl, rfl⟩
  go_wp2_with fail
  refine (HP.out _).mono ?_
  rintro e w2 ⟨rfl, hb⟩
  have HB2 := hide hb
  have HA := hide (Below.alloc (Below.refl w2.heap.size w2) (Nat.le_refl _) (.cells #[.string (bs b)] 9))
  have HW2 := hide ((HW.out.below hb).below HA.out)
  have HG := hide (heap_new w2 (.cells #[.string (bs b)] 9))
  clear hb
  go_wp2_with fail
  have hput := put_k5 B p w2.heap.size l bad ok [bs b] b (by rw [allB_one, bs_toList]) (fun _ _ => by omega) (by simp) 1 rfl 1 _ HW2.out HG.out hBp
  refine hput.mono ?_
  rintro e w3 ⟨rfl, hw3, hb3, hkt3⟩
  have HW3 := hide hw3
  have HB3 := hide ((HB2.out.mono hBs.out).trans ((HA.out.mono (Nat.le_trans hBs.out HB2.out.size)).trans hb3))
  have HK3 := hide (((KeepsT.of_below (Ts := [5, 57]) HB2.out).trans (KeepsT.of_below HA.out)).trans hkt3)
  clear hput hw3 hb3 hkt3
  go_wp2
  go_ret
  exact ⟨rfl, HW3.out, HB3.out, HK3.out⟩
set_option maxRecDepth 100000 in
theorem wsigned_k (B p : Nat) (l : List UInt8) (bad : Bool) (hl : l.length ≤ 90000000) (n : Int) (n0 : -9223372036854775808 ≤ n) (n1 : n ≤ 9223372036854775807) (w : World) (h : WrAt w B p l bad) (hBp : B ≤ p) :
    Calls Try.prog 38 #[.pointer (some ⟨p, 0, none⟩), .int .i64 n] w fun e w' => e = .returned (.pointer (some ⟨p, 0, none⟩)) ∧ WrAt w' B p (wrL l (putS (IntKind.u64.wrap n) 8) bad (fitsB (IntKind.u64.wrap n).toNat 8)) (wrB bad (fitsB (IntKind.u64.wrap n).toNat 8)) ∧ Below B w w' ∧ KeepsT [5, 57] w w' := by
  have hu0 : 0 ≤ IntKind.u64.wrap n := by rw [IntKind.wrap_u64]; omega
  have hu1 : IntKind.u64.wrap n ≤ 18446744073709551615 := by rw [IntKind.wrap_u64]; omega
  have HN := hide (wnumber_k B p l bad hl _ hu0 hu1 8 w h hBp)
  clear h
  go_enter Try.func38, Try.ntmps38
  go_wp2_with fail
  refine HN.out.mono ?_
  rintro e w2 ⟨rfl, hw, hb⟩
  have HW := hide hw
  have HB := hide hb
  clear hw hb
  go_wp2
  go_ret
  exact ⟨rfl, HW.out, HB.out⟩
end Go.Proofs.Ytbnbfnlfgmlcgaa
