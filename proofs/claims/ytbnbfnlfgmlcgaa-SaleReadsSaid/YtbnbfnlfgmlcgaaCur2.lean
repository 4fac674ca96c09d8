/-
  Layer 4, the program's calls: a reader's texts; a writer by contracts.
-/
import Derived.Test.YtbnbfnlfgmlcgaaCur
import Derived.Lib.AppendStr
namespace Go.Proofs.Ytbnbfnlfgmlcgaa
set_option linter.unusedSimpArgs false
set_option linter.unusedVariables false
open Go.RowKit

theorem only_same {q : Nat} {a b : World} (h : a = b) : Only q a b := by subst h; exact Only.refl _ _
theorem signed_any (r : Nat) (s : ByteArray) (hs : s.size ≤ 9223372036854775807) (bad : Bool) (w : World) (h : RdAt w r s bad) :
    Calls Try.prog 55 #[.pointer (some ⟨r, 0, none⟩)] w fun e w' => e = .returned (.int .i64 (wrap64 (getN (last8 (rdNum s bad 8).1.data.toList) : Int))) ∧ RdAt w' r (rdNum s bad 8).2.1 (rdNum s bad 8).2.2 ∧ Only r w w' := by
  have HN := hide (number_any r s hs bad 8 w h)
  clear h
  generalize rdNum s bad 8 = z at *
  have hb := getN_last8_lt z.1.data.toList
  generalize getN (last8 z.1.data.toList) = x at *
  go_enter Try.func55, Try.ntmps55
  go_wp2_with fail
  refine HN.out.mono ?_
  rintro e w1 ⟨rfl, hr, ho⟩
  have HR := hide hr
  have HO := hide ho
  clear hr ho
  go_wp2
  go_ret
  exact ⟨rfl, HR.out, HO.out⟩
theorem signed_nil (w : World) : Calls Try.prog 55 #[.pointer none] w fun e w' => e = .returned (.int .i64 0) ∧ Below w.heap.size w w' := by
  go_enter Try.func55, Try.ntmps55
  go_wp2_with fail
  refine (number_nil 8 _).mono ?_
  rintro e w1 ⟨rfl, hb⟩
  go_wp2
  go_ret
  exact ⟨rfl, hb⟩

/-- a text's field -/
def rdText (s : ByteArray) (bad : Bool) : ByteArray × ByteArray × Bool :=
  if bad = true ∨ s.size = 0 then (⟨#[]⟩, s, true) else
    (if (rdTake s false ((1 : Int) + ((s.data.toList.getD 0 0).toNat : Int)) true).2.2 = true then ⟨#[]⟩ else (rdTake s false ((1 : Int) + ((s.data.toList.getD 0 0).toNat : Int)) true).1.extract 1 (rdTake s false ((1 : Int) + ((s.data.toList.getD 0 0).toNat : Int)) true).1.size,
      (rdTake s false ((1 : Int) + ((s.data.toList.getD 0 0).toNat : Int)) true).2.1, (rdTake s false ((1 : Int) + ((s.data.toList.getD 0 0).toNat : Int)) true).2.2)
/-- bytes as cells -/
def u8s (l : List UInt8) : List Value := l.map fun b => .int .u8 (b.toNat : Int)
/-- a writer lies at block p: what it wrote, and whether it may not be -/
def WrAt (w : World) (B p : Nat) (l : List UInt8) (bad : Bool) : Prop :=
  ∃ a cap, w.heap[p]? = some (.cells #[.slice a l.length cap, .bool bad] 57 (0, 0)) ∧ w.ownsRow B 5 1 (.slice a l.length cap) l.length (u8s l)
theorem strCells_u8s (s : ByteArray) : Lib.strCells s = u8s s.data.toList := rfl
theorem u8s_append (a b : List UInt8) : u8s (a ++ b) = u8s a ++ u8s b := by simp [u8s]
theorem owns_slice {w : World} {B e n : Nat} {v : Value} {xs : List Value} (h : w.ownsRow B e 1 v n xs) : ∃ a cap, v = .slice a n cap := by
  rcases h.2 with ⟨rfl, rfl⟩ | ⟨g, cap, cur, rfl, _⟩
  · exact ⟨none, 0, rfl⟩
  · exact ⟨_, cap, rfl⟩
/-- a block of another type isn't the row's -/
theorem owns_other {w : World} {B e n k t : Nat} {v : Value} {xs : List Value} {c : Array Value} {fr : Nat × Nat} (h : w.ownsRow B e 1 v n xs) (hk : w.heap[k]? = some (.cells c t fr)) (ht : t ≠ e) : v.ownBlock ≠ some k := by
  rcases h.2 with ⟨rfl, rfl⟩ | ⟨g, cap, cur, rfl, _, hg, _⟩
  · simp [Value.ownBlock]
  · simp only [Value.ownBlock, ne_eq, Option.some.injEq]
    rintro rfl
    rw [hg] at hk
    simp only [Option.some.injEq, Obj.cells.injEq] at hk
    exact ht hk.2.1.symm
theorem owns_ge {w : World} {B e n : Nat} {v : Value} {xs : List Value} (h : w.ownsRow B e 1 v n xs) : ∀ k, v.ownBlock = some k → B ≤ k := fun k hk => (h.lt k hk).1
theorem WrAt.below {w w' : World} {B p : Nat} {l : List UInt8} {bad : Bool} (h : WrAt w B p l bad) (hb : Below w.heap.size w w') : WrAt w' B p l bad := by
  obtain ⟨a, cap, h1, h2⟩ := h
  refine ⟨a, cap, by rw [hb.block p (heap_lt h1)]; exact h1, h2.1, ?_⟩
  rcases h2.2 with h3 | ⟨g, cap', cur, hv, hg, hh, h4⟩
  · exact .inl h3
  · exact .inr ⟨g, cap', cur, hv, hg, by rw [hb.block g (heap_lt hh)]; exact hh, h4⟩
theorem conv_nil (w : World) : (convert 44 9 (.slice none 0 0)).run Try.prog w = .ok (.string ⟨#[]⟩) w := by kernel_rfl
theorem conv_owns {w : World} {B : Nat} {a : Option Addr} {cap : Nat} {l : List UInt8} (h : w.ownsRow B 5 1 (.slice a l.length cap) l.length (u8s l)) :
    (convert 44 9 (.slice a l.length cap)).run Try.prog w = .ok (.string (bs l)) w := by
  rcases h.2 with ⟨hv, hn⟩ | ⟨g, cap', cur, hv, _, hg, hnc, _, hsz, hx⟩
  · obtain rfl : l = [] := List.length_eq_zero_iff.1 hn
    simp only [Value.slice.injEq] at hv
    obtain ⟨rfl, _, rfl⟩ := hv
    exact conv_nil w
  · simp only [Value.slice.injEq] at hv
    obtain ⟨rfl, _, rfl⟩ := hv
    refine conv_bytes w g 0 l.length cap l rfl (fun i hi => ?_)
    rw [cell_of_block hg, Nat.zero_add]
    have h1 : (u8s l)[i]? = some (.int .u8 ((l.getD i 0).toNat : Int)) := by simp [u8s, List.getD, hi]
    rw [← hx] at h1
    rw [List.getElem?_take, if_pos (by omega)] at h1
    simpa using h1

/-- all bytes of strings -/
def allB (ss : List ByteArray) : List UInt8 := ss.flatMap fun s => s.data.toList
theorem allB_snoc (ss : List ByteArray) (k : Nat) (h : k < ss.length) : allB (ss.take (k + 1)) = allB (ss.take k) ++ (ss.getD k ⟨#[]⟩).data.toList := by
  rw [List.take_succ_eq_append_getElem h]
  unfold allB
  rw [List.flatMap_append]
  congr 1
  simp [List.getD, h]
theorem allB_take (ss : List ByteArray) : ∀ k, (allB (ss.take k)).length ≤ (allB ss).length := by
  intro k
  have := congrArg (fun l => (allB l).length) (List.take_append_drop k ss)
  simp only [allB, List.flatMap_append, List.length_append] at this ⊢
  omega
theorem wr_start {W : World} {B : Nat} {B' : Nat} {l : List UInt8} {bad : Bool} {a : Option Addr} {cap p : Nat} (h1 : W.heap[p]? = some (.cells #[.slice a l.length cap, .bool bad] 57 (0, 0))) :
    W.cell? ⟨p, 0, none⟩ = some (.slice a l.length cap) ∧ W.cell? ⟨p, 1, none⟩ = some (.bool bad) ∧ W.frozen? ⟨p, 0, none⟩ = false ∧ W.frozen? ⟨p, 1, none⟩ = false :=
  ⟨by rw [cell_of_block h1]; rfl, by rw [cell_of_block h1]; rfl, frozen_of_block h1 0, frozen_of_block h1 1⟩
theorem wr_put {wr w' : World} {B p g : Nat} {L : List UInt8} {s : ByteArray} {a1 a2 : Option Addr} {c1 c2 : Nat} {cg : Array Value} (H1 : wr.heap[p]? = some (.cells #[.slice a1 L.length c1, .bool false] 57 (0, 0))) (H2 : wr.ownsRow B 5 1 (.slice a1 L.length c1) L.length (u8s L))
    (hg : wr.heap[g]? = some (.cells cg 9 (0, 0))) (hgp : g ≠ p) (hBp : B ≤ p) (hgr : wr.grownBy w' (Value.slice a1 L.length c1).ownBlock)
    (ho : w'.ownsRow B 5 1 (.slice a2 (L.length + s.size) c2) (L.length + s.size) (u8s L ++ Lib.strCells s)) :
    w'.cell? ⟨p, 0, none⟩ = some (.slice a1 L.length c1) ∧ w'.frozen? ⟨p, 0, none⟩ = false ∧ WrAt (w'.setCell ⟨p, 0, none⟩ (.slice a2 (L.length + s.size) c2)) B p (L ++ s.data.toList) false ∧
      (w'.setCell ⟨p, 0, none⟩ (.slice a2 (L.length + s.size) c2)).heap[g]? = some (.cells cg 9 (0, 0)) ∧ Below B wr (w'.setCell ⟨p, 0, none⟩ (.slice a2 (L.length + s.size) c2)) := by
  have hp' : w'.heap[p]? = some (.cells #[.slice a1 L.length c1, .bool false] 57 (0, 0)) := by
    rw [hgr.block p (heap_lt H1) (fun h => owns_other H2 H1 (by decide) h.symm)]; exact H1
  have hg' : w'.heap[g]? = some (.cells cg 9 (0, 0)) := by
    rw [hgr.block g (heap_lt hg) (fun h => owns_other H2 hg (by decide) h.symm)]; exact hg
  have hlen : (L ++ s.data.toList).length = L.length + s.size := by rw [List.length_append, size_list]
  refine ⟨by rw [cell_of_block hp']; rfl, frozen_of_block hp' 0, ⟨a2, c2, ?_, ?_⟩, ?_, ?_⟩
  · rw [block_setCell hp', hlen]; rfl
  · rw [hlen, u8s_append]
    exact ownsRow_setCell_other ho (owns_other ho hp' (by decide)) _
  · rw [block_setCell_other (Ne.symm hgp)]; exact hg'
  · exact ((Below.refl B wr).grown hgr (Nat.le_trans hBp (Nat.le_of_lt (heap_lt H1))) (fun k hk => owns_ge H2 k hk)).setCell hBp _
set_option maxRecDepth 100000 in
set_option maxHeartbeats 1000000 in
theorem put_any4 (B p g : Nat) (l : List UInt8) (bad ok : Bool) (ss : List ByteArray) (hlen0 : bad = false → ok = true → l.length + (allB ss).length ≤ 100000000) (hss : ss.length ≤ 1000) (cap : Nat) (w : World) (h : WrAt w B p l bad) (hg : w.heap[g]? = some (.cells (ss.map Value.string).toArray 9 (0, 0))) (hBp : B ≤ p) :
    Calls Try.prog 59 #[.pointer (some ⟨p, 0, none⟩), .bool ok, .slice (some ⟨g, 0, none⟩) ss.length cap] w fun e w' => e = .returned (.pointer (some ⟨p, 0, none⟩)) ∧ WrAt w' B p (if bad = true ∨ ok = false then l else l ++ allB ss) (bad || !ok) ∧ Below B w w' := by
  obtain ⟨a, c, h1, h2⟩ := h
  obtain ⟨c0, c1, f0, f1⟩ := wr_start (B := B) (B' := B) h1
  have hBs : B ≤ w.heap.size := Nat.le_trans hBp (Nat.le_of_lt (heap_lt h1))
  have hset : (w.setCell ⟨p, 1, none⟩ (.bool (bad || !ok))).heap[p]? = some (.cells #[.slice a l.length c, .bool (bad || !ok)] 57 (0, 0)) := by rw [block_setCell h1]; rfl
  have hown : (w.setCell ⟨p, 1, none⟩ (.bool (bad || !ok))).ownsRow B 5 1 (.slice a l.length c) l.length (u8s l) := ownsRow_setCell_other h2 (owns_other h2 h1 (by decide)) _
  have hBel : Below B w (w.setCell ⟨p, 1, none⟩ (.bool (bad || !ok))) := (Below.refl _ _).setCell hBp _
  by_cases hc : bad = true ∨ ok = false
  · rw [if_pos hc]
    have hb : (bad || !ok) = true := by rcases hc with rfl | rfl <;> simp
    rw [hb] at hset hown hBel ⊢
    have HSET := hide hset
    have HOWN := hide hown
    have HBEL := hide hBel
    clear h1 h2 hset hown hBel hg hBs hlen0
    rcases hc with rfl | rfl
    · go_enter Try.func59, Try.ntmps59
      go_wp2
      go_ret
      exact ⟨rfl, ⟨a, c, HSET.out, HOWN.out⟩, HBEL.out⟩
    · cases bad
      all_goals
        go_enter Try.func59, Try.ntmps59
        go_wp2
        go_ret
        exact ⟨rfl, ⟨a, c, HSET.out, HOWN.out⟩, HBEL.out⟩
  · rw [if_neg hc]
    obtain ⟨rfl, rfl⟩ : bad = false ∧ ok = true := by cases bad <;> cases ok <;> simp at hc ⊢
    have hlen := hlen0 rfl rfl
    clear hlen0
    have hgp : g ≠ p := by
      rintro rfl
      rw [h1] at hg
      simp only [Option.some.injEq, Obj.cells.injEq] at hg
      exact absurd hg.2.1 (by decide)
    rw [show (false || !true) = false from rfl] at hset hown hBel ⊢
    have hg2 : (w.setCell ⟨p, 1, none⟩ (.bool false)).heap[g]? = some (.cells (ss.map Value.string).toArray 9 (0, 0)) := by rw [block_setCell_other (Ne.symm hgp)]; exact hg
    have HSET := hide hset
    have HOWN := hide hown
    have HBEL := hide hBel
    have HG2 := hide hg2
    have HGP := hide hgp
    clear h1 h2 hset hown hBel hg hBs hg2 hgp hc
    go_enter Try.func59, Try.ntmps59
    go_wp2_with fail
    clear c0 f0 f1 c1
    obtain ⟨i0, hi, hz0, hz1, hz2⟩ := info_parts (show (Try.prog.info? 5).map (fun i => (i.zero, i.size, i.bytes)) = some (some (.int .u8 0), 1, 1) by kernel_rfl)
    have HI := hide hi
    have HZ0 := hide hz0
    have HZ1 := hide hz1
    have HZ2 := hide hz2
    clear hi hz0 hz1 hz2
    go_loopw [29] (fun i W => ∃ k : Nat, k ≤ ss.length ∧ i = .int .i64 k ∧ WrAt W B p (l ++ allB (ss.take k)) false ∧ W.heap[g]? = some (.cells (ss.map Value.string).toArray 9 (0, 0)) ∧ Below B w W) (fun i _ => ss.length - (intOf i).toNat)
    case atStart => exact ⟨0, by omega, rfl, ⟨a, c, by simpa [allB] using HSET.out, by simpa [allB] using HOWN.out⟩, HG2.out, HBEL.out⟩
    case round =>
      clear HSET HOWN HBEL HG2
      obtain ⟨k, hk, rfl, hW, hg, hB⟩ := hrel
      have HW := hide hW
      have HG := hide hg
      have HB := hide hB
      have hat := allB_take ss k
      by_cases hlt : k < ss.length
      · obtain ⟨a1, c1, h1, h2⟩ := hW
        obtain ⟨e0, e1, e2, e3⟩ := wr_start (B := B) (B' := B) h1
        have hcell : wr.cell? ⟨g, k, none⟩ = some (.string (ss.getD k ⟨#[]⟩)) := by
          rw [cell_of_block hg]; simp [List.getD, hlt]
        have hat2 := allB_take ss (k + 1)
        have hsn := allB_snoc ss k hlt
        have hnx := hide (show l ++ allB (ss.take (k + 1)) = (l ++ allB (ss.take k)) ++ (ss.getD k ⟨#[]⟩).data.toList by rw [hsn, List.append_assoc])
        rw [hsn, List.length_append, size_list] at hat2
        generalize ss.getD k ⟨#[]⟩ = s at *
        have hBw := hide (show B ≤ wr.heap.size from Nat.le_trans hBp (Nat.le_of_lt (heap_lt h1)))
        have hne := hide (owns_other h2 h1 (by decide))
        have hng := hide (owns_other h2 hg (by decide))
        have hlp := hide (heap_lt h1)
        have hlg := hide (heap_lt hg)
        have H1 := hide h1
        have H2 := hide h2
        have hge := hide (owns_ge h2)
        have hcnt : (l ++ allB (ss.take k)).length + s.size ≤ 100000000 := by rw [List.length_append]; omega
        generalize l ++ allB (ss.take k) = L at *
        clear hg hB hsn h1 h2 hat hat2
        go_wp2_with (at_builtin; refine Lib.wpList_append_own_string _ rfl _ _ _ _ rfl B 5 i0 Try.underlying44 Try.underlying9 HI.out HZ0.out HZ1.out HZ2.out (.slice a1 L.length c1) L.length (u8s L) rfl H2.out s rfl (by unfold maxLen; omega) (by omega) hBw.out ?_; intro v' w' ho hgr hnil; obtain ⟨a2, c2, rfl⟩ := owns_slice ho; clear hnil; obtain ⟨k1, k2, k3, k4, k5⟩ := wr_put H1.out H2.out HG.out HGP.out hBp hgr ho; have K3 := hide k3; have K4 := hide k4; have K5 := hide k5; clear k3 k4 k5 ho hgr)
        go_roundw
        case rel => exact ⟨k + 1, by omega, by go_num, by rw [hnx.out]; exact K3.out, K4.out, HB.out.trans K5.out⟩
        case measure => simp [intOf]; omega
      · obtain rfl : k = ss.length := by omega
        have HF := hide (show WrAt wr B p (l ++ allB ss) false by have := HW.out; rwa [List.take_length] at this)
        clear hg hB
        go_wp2_with fail
        go_ret
        exact ⟨rfl, HF.out, HB.out⟩
end Go.Proofs.Ytbnbfnlfgmlcgaa
