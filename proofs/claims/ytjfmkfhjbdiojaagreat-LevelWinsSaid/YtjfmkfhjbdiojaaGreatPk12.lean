/-
  Lemmas and contracts of this project's own, put together: Cur2, Cur3, Tag, MTag, Tag2, Tag3, Tag4, Tag5, Drive, Drive2.
-/
import Derived.Lib.AppendStr
import Derived.Test.YtjfmkfhjbdiojaaGreatPk11
namespace Go.Proofs.YtjfmkfhjbdiojaaGreat
set_option linter.unusedSimpArgs false
set_option linter.unusedVariables false
open Go.RowKit

theorem only_same {q : Nat} {a b : World} (h : a = b) : Only q a b := by subst h; exact Only.refl _ _
/-- a text's field -/
def rdText (s : ByteArray) (bad : Bool) : ByteArray × ByteArray × Bool :=
  if bad = true ∨ s.size = 0 then (⟨#[]⟩, s, true) else
    (if (rdTake s false ((1 : Int) + ((s.data.toList.getD 0 0).toNat : Int)) true).2.2 = true then ⟨#[]⟩ else (rdTake s false ((1 : Int) + ((s.data.toList.getD 0 0).toNat : Int)) true).1.extract 1 (rdTake s false ((1 : Int) + ((s.data.toList.getD 0 0).toNat : Int)) true).1.size,
      (rdTake s false ((1 : Int) + ((s.data.toList.getD 0 0).toNat : Int)) true).2.1, (rdTake s false ((1 : Int) + ((s.data.toList.getD 0 0).toNat : Int)) true).2.2)
/-- bytes as cells -/
def u8s (l : List UInt8) : List Value := l.map fun b => .int .u8 (b.toNat : Int)
/-- a writer lies at block p: what it wrote, and whether it may not be -/
def WrAt (w : World) (B p : Nat) (l : List UInt8) (bad : Bool) : Prop :=
  ∃ a cap, w.heap[p]? = some (.cells #[.slice a l.length cap, .bool bad] 181 (0, 0)) ∧ w.ownsRow B 5 1 (.slice a l.length cap) l.length (u8s l)
theorem strCells_u8s (s : ByteArray) : Lib.strCells s = u8s s.data.toList := rfl
theorem u8s_append (a b : List UInt8) : u8s (a ++ b) = u8s a ++ u8s b := by simp [u8s]
theorem owns_slice {w : World} {B e n : Nat} {v : Value} {xs : List Value} (h : w.ownsRow B e 1 v n xs) : ∃ a cap, v = .slice a n cap := by
  rcases h.2 with ⟨rfl, rfl⟩ | ⟨g, cap, cur, rfl, _⟩
  · exact ⟨none, 0, rfl⟩
  · exact ⟨_, cap, rfl⟩
/-- a block of another type isn't the row's -/
theorem owns_other {w : World} {B e n k t : Nat} {v : Value} {xs : List Value} {c : Array Value} {fr : Nat × Nat} (h : w.ownsRow B e 1 v n xs) (hk : w.heap[k]? = some (.cells c t fr)) (ht : t ≠ e) : v.ownBlock ≠ some k := by
  rcases h.2 with ⟨rfl, rfl⟩ | ⟨g, cap, cur, rfl, _, hg, _⟩
  · simp [Value.ownBlock]
  · simp only [Value.ownBlock, ne_eq, Option.some.injEq]
    rintro rfl
    rw [hg] at hk
    simp only [Option.some.injEq, Obj.cells.injEq] at hk
    exact ht hk.2.1.symm
theorem owns_ge {w : World} {B e n : Nat} {v : Value} {xs : List Value} (h : w.ownsRow B e 1 v n xs) : ∀ k, v.ownBlock = some k → B ≤ k := fun k hk => (h.lt k hk).1
theorem WrAt.below {w w' : World} {B p : Nat} {l : List UInt8} {bad : Bool} (h : WrAt w B p l bad) (hb : Below w.heap.size w w') : WrAt w' B p l bad := by
  obtain ⟨a, cap, h1, h2⟩ := h
  refine ⟨a, cap, by rw [hb.block p (heap_lt h1)]; exact h1, h2.1, ?_⟩
  rcases h2.2 with h3 | ⟨g, cap', cur, hv, hg, hh, h4⟩
  · exact .inl h3
  · exact .inr ⟨g, cap', cur, hv, hg, by rw [hb.block g (heap_lt hh)]; exact hh, h4⟩
theorem conv_nil (w : World) : (convert 22 9 (.slice none 0 0)).run Tryz.prog w = .ok (.string ⟨#[]⟩) w := by kernel_rfl
theorem conv_owns {w : World} {B : Nat} {a : Option Addr} {cap : Nat} {l : List UInt8} (h : w.ownsRow B 5 1 (.slice a l.length cap) l.length (u8s l)) :
    (convert 22 9 (.slice a l.length cap)).run Tryz.prog w = .ok (.string (bs l)) w := by
  rcases h.2 with ⟨hv, hn⟩ | ⟨g, cap', cur, hv, _, hg, hnc, _, hsz, hx⟩
  · obtain rfl : l = [] := List.length_eq_zero_iff.1 hn
    simp only [Value.slice.injEq] at hv
    obtain ⟨rfl, _, rfl⟩ := hv
    exact conv_nil w
  · simp only [Value.slice.injEq] at hv
    obtain ⟨rfl, _, rfl⟩ := hv
    refine conv_bytes w g 0 l.length cap l rfl (fun i hi => ?_)
    rw [cell_of_block hg, Nat.zero_add]
    have h1 : (u8s l)[i]? = some (.int .u8 ((l.getD i 0).toNat : Int)) := by simp [u8s, List.getD, hi]
    rw [← hx] at h1
    rw [List.getElem?_take, if_pos (by omega)] at h1
    simpa using h1

/-- all bytes of strings -/
def allB (ss : List ByteArray) : List UInt8 := ss.flatMap fun s => s.data.toList
theorem allB_snoc (ss : List ByteArray) (k : Nat) (h : k < ss.length) : allB (ss.take (k + 1)) = allB (ss.take k) ++ (ss.getD k ⟨#[]⟩).data.toList := by
  rw [List.take_succ_eq_append_getElem h]
  unfold allB
  rw [List.flatMap_append]
  congr 1
  simp [List.getD, h]
theorem allB_take (ss : List ByteArray) : ∀ k, (allB (ss.take k)).length ≤ (allB ss).length := by
  intro k
  have := congrArg (fun l => (allB l).length) (List.take_append_drop k ss)
  simp only [allB, List.flatMap_append, List.length_append] at this ⊢
  omega
theorem wr_start {W : World} {B : Nat} {B' : Nat} {l : List UInt8} {bad : Bool} {a : Option Addr} {cap p : Nat} (h1 : W.heap[p]? = some (.cells #[.slice a l.length cap, .bool bad] 181 (0, 0))) :
    W.cell? ⟨p, 0, none⟩ = some (.slice a l.length cap) ∧ W.cell? ⟨p, 1, none⟩ = some (.bool bad) ∧ W.frozen? ⟨p, 0, none⟩ = false ∧ W.frozen? ⟨p, 1, none⟩ = false :=
  ⟨by rw [cell_of_block h1]; rfl, by rw [cell_of_block h1]; rfl, frozen_of_block h1 0, frozen_of_block h1 1⟩
theorem wr_put {wr w' : World} {B p g : Nat} {L : List UInt8} {s : ByteArray} {a1 a2 : Option Addr} {c1 c2 : Nat} {cg : Array Value} (H1 : wr.heap[p]? = some (.cells #[.slice a1 L.length c1, .bool false] 181 (0, 0))) (H2 : wr.ownsRow B 5 1 (.slice a1 L.length c1) L.length (u8s L))
    (hg : wr.heap[g]? = some (.cells cg 9 (0, 0))) (hgp : g ≠ p) (hBp : B ≤ p) (hgr : wr.grownBy w' (Value.slice a1 L.length c1).ownBlock)
    (ho : w'.ownsRow B 5 1 (.slice a2 (L.length + s.size) c2) (L.length + s.size) (u8s L ++ Lib.strCells s)) :
    w'.cell? ⟨p, 0, none⟩ = some (.slice a1 L.length c1) ∧ w'.frozen? ⟨p, 0, none⟩ = false ∧ WrAt (w'.setCell ⟨p, 0, none⟩ (.slice a2 (L.length + s.size) c2)) B p (L ++ s.data.toList) false ∧
      (w'.setCell ⟨p, 0, none⟩ (.slice a2 (L.length + s.size) c2)).heap[g]? = some (.cells cg 9 (0, 0)) ∧ Below B wr (w'.setCell ⟨p, 0, none⟩ (.slice a2 (L.length + s.size) c2)) := by
  have hp' : w'.heap[p]? = some (.cells #[.slice a1 L.length c1, .bool false] 181 (0, 0)) := by
    rw [hgr.block p (heap_lt H1) (fun h => owns_other H2 H1 (by decide) h.symm)]; exact H1
  have hg' : w'.heap[g]? = some (.cells cg 9 (0, 0)) := by
    rw [hgr.block g (heap_lt hg) (fun h => owns_other H2 hg (by decide) h.symm)]; exact hg
  have hlen : (L ++ s.data.toList).length = L.length + s.size := by rw [List.length_append, size_list]
  refine ⟨by rw [cell_of_block hp']; rfl, frozen_of_block hp' 0, ⟨a2, c2, ?_, ?_⟩, ?_, ?_⟩
  · rw [block_setCell hp', hlen]; rfl
  · rw [hlen, u8s_append]
    exact ownsRow_setCell_other ho (owns_other ho hp' (by decide)) _
  · rw [block_setCell_other (Ne.symm hgp)]; exact hg'
  · exact ((Below.refl B wr).grown hgr (Nat.le_trans hBp (Nat.le_of_lt (heap_lt H1))) (fun k hk => owns_ge H2 k hk)).setCell hBp _
set_option maxRecDepth 100000 in
set_option maxHeartbeats 1000000 in
theorem put_any4 (B p g : Nat) (l : List UInt8) (bad ok : Bool) (ss : List ByteArray) (hlen0 : bad = false → ok = true → l.length + (allB ss).length ≤ 100000000) (hss : ss.length ≤ 1000) (cap : Nat) (w : World) (h : WrAt w B p l bad) (hg : w.heap[g]? = some (.cells (ss.map Value.string).toArray 9 (0, 0))) (hBp : B ≤ p) :
    Calls Tryz.prog 126 #[.pointer (some ⟨p, 0, none⟩), .bool ok, .slice (some ⟨g, 0, none⟩) ss.length cap] w fun e w' => e = .returned (.pointer (some ⟨p, 0, none⟩)) ∧ WrAt w' B p (if bad = true ∨ ok = false then l else l ++ allB ss) (bad || !ok) ∧ Below B w w' := by
  obtain ⟨a, c, h1, h2⟩ := h
  obtain ⟨c0, c1, f0, f1⟩ := wr_start (B := B) (B' := B) h1
  have hBs : B ≤ w.heap.size := Nat.le_trans hBp (Nat.le_of_lt (heap_lt h1))
  have hset : (w.setCell ⟨p, 1, none⟩ (.bool (bad || !ok))).heap[p]? = some (.cells #[.slice a l.length c, .bool (bad || !ok)] 181 (0, 0)) := by rw [block_setCell h1]; rfl
  have hown : (w.setCell ⟨p, 1, none⟩ (.bool (bad || !ok))).ownsRow B 5 1 (.slice a l.length c) l.length (u8s l) := ownsRow_setCell_other h2 (owns_other h2 h1 (by decide)) _
  have hBel : Below B w (w.setCell ⟨p, 1, none⟩ (.bool (bad || !ok))) := (Below.refl _ _).setCell hBp _
  by_cases hc : bad = true ∨ ok = false
  · rw [if_pos hc]
    have hb : (bad || !ok) = true := by rcases hc with rfl | rfl <;> simp
    rw [hb] at hset hown hBel ⊢
    have HSET := hide hset
    have HOWN := hide hown
    have HBEL := hide hBel
    clear h1 h2 hset hown hBel hg hBs hlen0
    rcases hc with rfl | rfl
    · go_enter Tryz.func126, Tryz.ntmps126
      go_wp2
      go_ret
      exact ⟨rfl, ⟨a, c, HSET.out, HOWN.out⟩, HBEL.out⟩
    · cases bad
      all_goals
        go_enter Tryz.func126, Tryz.ntmps126
        go_wp2
        go_ret
        exact ⟨rfl, ⟨a, c, HSET.out, HOWN.out⟩, HBEL.out⟩
  · rw [if_neg hc]
    obtain ⟨rfl, rfl⟩ : bad = false ∧ ok = true := by cases bad <;> cases ok <;> simp at hc ⊢
    have hlen := hlen0 rfl rfl
    clear hlen0
    have hgp : g ≠ p := by
      rintro rfl
      rw [h1] at hg
      simp only [Option.some.injEq, Obj.cells.injEq] at hg
      exact absurd hg.2.1 (by decide)
    rw [show (false || !true) = false from rfl] at hset hown hBel ⊢
    have hg2 : (w.setCell ⟨p, 1, none⟩ (.bool false)).heap[g]? = some (.cells (ss.map Value.string).toArray 9 (0, 0)) := by rw [block_setCell_other (Ne.symm hgp)]; exact hg
    have HSET := hide hset
    have HOWN := hide hown
    have HBEL := hide hBel
    have HG2 := hide hg2
    have HGP := hide hgp
    clear h1 h2 hset hown hBel hg hBs hg2 hgp hc
    go_enter Tryz.func126, Tryz.ntmps126
    go_wp2_with fail
    clear c0 f0 f1 c1
    obtain ⟨i0, hi, hz0, hz1, hz2⟩ := info_parts (show (Tryz.prog.info? 5).map (fun i => (i.zero, i.size, i.bytes)) = some (some (.int .u8 0), 1, 1) by kernel_rfl)
    have HI := hide hi
    have HZ0 := hide hz0
    have HZ1 := hide hz1
    have HZ2 := hide hz2
    clear hi hz0 hz1 hz2
    go_loopw [29] (fun i W => ∃ k : Nat, k ≤ ss.length ∧ i = .int .i64 k ∧ WrAt W B p (l ++ allB (ss.take k)) false ∧ W.heap[g]? = some (.cells (ss.map Value.string).toArray 9 (0, 0)) ∧ Below B w W) (fun i _ => ss.length - (intOf i).toNat)
    case atStart => exact ⟨0, by omega, rfl, ⟨a, c, by simpa [allB] using HSET.out, by simpa [allB] using HOWN.out⟩, HG2.out, HBEL.out⟩
    case round =>
      clear HSET HOWN HBEL HG2
      obtain ⟨k, hk, rfl, hW, hg, hB⟩ := hrel
      have HW := hide hW
      have HG := hide hg
      have HB := hide hB
      have hat := allB_take ss k
      by_cases hlt : k < ss.length
      · obtain ⟨a1, c1, h1, h2⟩ := hW
        obtain ⟨e0, e1, e2, e3⟩ := wr_start (B := B) (B' := B) h1
        have hcell : wr.cell? ⟨g, k, none⟩ = some (.string (ss.getD k ⟨#[]⟩)) := by
          rw [cell_of_block hg]; simp [List.getD, hlt]
        have hat2 := allB_take ss (k + 1)
        have hsn := allB_snoc ss k hlt
        have hnx := hide (show l ++ allB (ss.take (k + 1)) = (l ++ allB (ss.take k)) ++ (ss.getD k ⟨#[]⟩).data.toList by rw [hsn, List.append_assoc])
        rw [hsn, List.length_append, size_list] at hat2
        generalize ss.getD k ⟨#[]⟩ = s at *
        have hBw := hide (show B ≤ wr.heap.size from Nat.le_trans hBp (Nat.le_of_lt (heap_lt h1)))
        have hne := hide (owns_other h2 h1 (by decide))
        have hng := hide (owns_other h2 hg (by decide))
        have hlp := hide (heap_lt h1)
        have hlg := hide (heap_lt hg)
        have H1 := hide h1
        have H2 := hide h2
        have hge := hide (owns_ge h2)
        have hcnt : (l ++ allB (ss.take k)).length + s.size ≤ 100000000 := by rw [List.length_append]; omega
        generalize l ++ allB (ss.take k) = L at *
        clear hg hB hsn h1 h2 hat hat2
        go_wp2_with (at_builtin; refine Lib.wpList_append_own_string _ rfl _ _ _ _ rfl B 5 i0 Tryz.underlying22 Tryz.underlying9 HI.out HZ0.out HZ1.out HZ2.out (.slice a1 L.length c1) L.length (u8s L) rfl H2.out s rfl (by unfold maxLen; omega) (by omega) hBw.out ?_; intro v' w' ho hgr hnil; obtain ⟨a2, c2, rfl⟩ := owns_slice ho; clear hnil; obtain ⟨k1, k2, k3, k4, k5⟩ := wr_put H1.out H2.out HG.out HGP.out hBp hgr ho; have K3 := hide k3; have K4 := hide k4; have K5 := hide k5; clear k3 k4 k5 ho hgr)
        go_roundw
        case rel => exact ⟨k + 1, by omega, by go_num, by rw [hnx.out]; exact K3.out, K4.out, HB.out.trans K5.out⟩
        case measure => simp [intOf]; omega
      · obtain rfl : k = ss.length := by omega
        have HF := hide (show WrAt wr B p (l ++ allB ss) false by have := HW.out; rwa [List.take_length] at this)
        clear hg hB
        go_wp2_with fail
        go_ret
        exact ⟨rfl, HF.out, HB.out⟩
end Go.Proofs.YtjfmkfhjbdiojaaGreat

namespace Go.Proofs.YtjfmkfhjbdiojaaGreat
set_option linter.unusedSimpArgs false
set_option linter.unusedVariables false
open Go.RowKit

/-- what a writer has behind some bytes more -/
def wrL (l b : List UInt8) (bad ok : Bool) : List UInt8 := if bad = true ∨ ok = false then l else l ++ b
def wrB (bad ok : Bool) : Bool := bad || !ok
set_option maxRecDepth 100000 in
theorem put_any5 (B p g : Nat) (l : List UInt8) (bad ok : Bool) (ss : List ByteArray) (b : List UInt8) (hb : allB ss = b) (hlen0 : bad = false → ok = true → l.length + b.length ≤ 100000000) (hss : ss.length ≤ 1000) (n : Nat) (hn : ss.length = n) (cap : Nat) (w : World) (h : WrAt w B p l bad) (hg : w.heap[g]? = some (.cells (ss.map Value.string).toArray 9 (0, 0))) (hBp : B ≤ p) :
    Calls Tryz.prog 126 #[.pointer (some ⟨p, 0, none⟩), .bool ok, .slice (some ⟨g, 0, none⟩) n cap] w fun e w' => e = .returned (.pointer (some ⟨p, 0, none⟩)) ∧ WrAt w' B p (wrL l b bad ok) (wrB bad ok) ∧ Below B w w' := by
  subst hb hn
  exact put_any4 B p g l bad ok ss hlen0 hss cap w h hg hBp
theorem allB_one (s : ByteArray) : allB [s] = s.data.toList := by simp [allB]
theorem allB_two (s t : ByteArray) : allB [s, t] = s.data.toList ++ t.data.toList := by simp [allB]
theorem putS_le (n wd : Int) : (putS n wd).length ≤ 8 := by
  unfold putS
  split
  · rw [putL_length]; omega
  · simp
set_option maxRecDepth 100000 in
set_option maxHeartbeats 1000000 in
theorem wnumber_any (B p : Nat) (l : List UInt8) (bad : Bool) (hl : l.length ≤ 90000000) (n : Int) (n0 : 0 ≤ n) (n1 : n ≤ 18446744073709551615) (wd : Int) (w : World) (h : WrAt w B p l bad) (hBp : B ≤ p) :
    Calls Tryz.prog 101 #[.pointer (some ⟨p, 0, none⟩), .int .u64 n, .int .i64 wd] w fun e w' => e = .returned (.pointer (some ⟨p, 0, none⟩)) ∧ WrAt w' B p (wrL l (putS n wd) bad (fitsB n.toNat wd)) (wrB bad (fitsB n.toNat wd)) ∧ Below B w w' := by
  have hpl := putS_le n wd
  have hf := fun W => fits_any n n0 wd W
  have hp := fun W => put_any n n0 n1 wd W
  generalize fitsB n.toNat wd = ok at *
  generalize putS n wd = b at *
  have HF := hide hf
  have HP := hide hp
  have HW := hide h
  have hBs := hide (show B ≤ w.heap.size from by obtain ⟨a, c, h1, _⟩ := h; exact Nat.le_trans hBp (Nat.le_of_lt (heap_lt h1)))
  clear hf hp h
  go_enter Tryz.func101, Tryz.ntmps101
  go_wp2_with fail
  refine (HF.out _).mono ?_
  rintro e w1 ⟨rfl, rfl⟩
  go_wp2_with fail
  refine (HP.out _).mono ?_
  rintro e w2 ⟨rfl, hb⟩
  have HB2 := hide hb
  have HA := hide (Below.alloc (Below.refl w2.heap.size w2) (Nat.le_refl _) (.cells #[.string (bs b)] 9))
  have HW2 := hide ((HW.out.below hb).below HA.out)
  have HG := hide (heap_new w2 (.cells #[.string (bs b)] 9))
  clear hb
  go_wp2_with fail
  have hput := put_any5 B p w2.heap.size l bad ok [bs b] b (by rw [allB_one, bs_toList]) (fun _ _ => by omega) (by simp) 1 rfl 1 _ HW2.out HG.out hBp
  refine hput.mono ?_
  rintro e w3 ⟨rfl, hw3, hb3⟩
  have HW3 := hide hw3
  have HB3 := hide ((HB2.out.mono hBs.out).trans ((HA.out.mono (Nat.le_trans hBs.out HB2.out.size)).trans hb3))
  clear hput hw3 hb3
  go_wp2
  go_ret
  exact ⟨rfl, HW3.out, HB3.out⟩
set_option maxRecDepth 100000 in
theorem put_nil (ok : Bool) (v : Value) (w : World) : Calls Tryz.prog 126 #[.pointer none, .bool ok, v] w fun e w' => e = .returned (.pointer none) ∧ w = w' := by
  go_enter Tryz.func126, Tryz.ntmps126
  go_wp2
  go_ret
  exact ⟨rfl, rfl⟩
set_option maxRecDepth 100000 in
theorem wnumber_nil (n : Int) (n0 : 0 ≤ n) (n1 : n ≤ 18446744073709551615) (wd : Int) (w : World) :
    Calls Tryz.prog 101 #[.pointer none, .int .u64 n, .int .i64 wd] w fun e w' => e = .returned (.pointer none) ∧ Below w.heap.size w w' := by
  have hf := hide (fun W => fits_any n n0 wd W)
  have hp := hide (fun W => put_any n n0 n1 wd W)
  go_enter Tryz.func101, Tryz.ntmps101
  go_wp2_with fail
  refine (hf.out _).mono ?_
  rintro e w1 ⟨rfl, rfl⟩
  go_wp2_with fail
  refine (hp.out _).mono ?_
  rintro e w2 ⟨rfl, hb⟩
  have HB := hide hb
  clear hb
  go_wp2_with fail
  refine (put_nil _ _ _).mono ?_
  rintro e w3 ⟨rfl, rfl⟩
  go_wp2
  go_ret
  exact ⟨rfl, HB.out.alloc HB.out.size _⟩
set_option maxRecDepth 100000 in
theorem wbytes_any (B p : Nat) (l : List UInt8) (bad : Bool) (w : World) (h : WrAt w B p l bad) :
    Calls Tryz.prog 102 #[.pointer (some ⟨p, 0, none⟩)] w fun e w' => e = .returned (.tuple #[.string (if bad = true then ⟨#[]⟩ else bs l), .int .i64 (if bad = true then 2 else 0)]) ∧ w = w' := by
  obtain ⟨a, c, h1, h2⟩ := h
  obtain ⟨c0, c1, f0, f1⟩ := wr_start (B := B) (B' := B) h1
  have hcv := conv_owns h2
  clear h1 h2
  cases bad
  · go_enter Tryz.func102, Tryz.ntmps102
    go_wp2
    go_ret2
    exact ⟨rfl, rfl⟩
  · go_enter Tryz.func102, Tryz.ntmps102
    go_wp2
    go_ret2
    exact ⟨rfl, rfl⟩
set_option maxRecDepth 100000 in
theorem wbytes_nil (w : World) : Calls Tryz.prog 102 #[.pointer none] w fun e w' => e = .returned (.tuple #[.string ⟨#[]⟩, .int .i64 1]) ∧ w = w' := by
  go_enter Tryz.func102, Tryz.ntmps102
  go_wp2
  go_ret2
  exact ⟨rfl, rfl⟩
end Go.Proofs.YtjfmkfhjbdiojaaGreat

namespace Go.Proofs.YtjfmkfhjbdiojaaGreat
set_option linter.unusedSimpArgs false
set_option linter.unusedVariables false
open Go.RowKit

def tagV (k l s p n : Int) : Value := .agg #[.int .u8 k, .int .i64 l, .int .u64 s, .int .i64 p, .int .i64 n]
/-- may a tag be? -/
def TagOk (k l p n : Int) : Prop := 1 ≤ k ∧ k ≤ 3 ∧ 0 ≤ l ∧ l ≤ 65535 ∧ 1 ≤ n ∧ n ≤ 255 ∧ 0 ≤ p ∧ p < n
theorem tright_yes (k l s p n : Int) (h : TagOk k l p n) (w : World) :
    Calls Tryz.prog 61 #[.agg #[.int .u8 k, .int .i64 l, .int .u64 s, .int .i64 p, .int .i64 n]] w fun e w' => e = .returned (.bool true) ∧ Below w.heap.size w w' := by
  obtain ⟨h1, h2, h3, h4, h5, h6, h7, h8⟩ := h
  go_enter Tryz.func61, Tryz.ntmps61
  go_wp2
  go_ret
  exact ⟨rfl, (Below.refl _ _).alloc (Nat.le_refl _) _⟩
theorem tright_no (k l s p n : Int) (h : ¬ TagOk k l p n) (w : World) :
    Calls Tryz.prog 61 #[.agg #[.int .u8 k, .int .i64 l, .int .u64 s, .int .i64 p, .int .i64 n]] w fun e w' => e = .returned (.bool false) ∧ Below w.heap.size w w' := by
  have hs : ¬ 1 ≤ k ∨ (1 ≤ k ∧ ¬ k ≤ 3) ∨ (1 ≤ k ∧ k ≤ 3 ∧ ¬ 0 ≤ l) ∨ (1 ≤ k ∧ k ≤ 3 ∧ 0 ≤ l ∧ ¬ l ≤ 65535) ∨ (1 ≤ k ∧ k ≤ 3 ∧ 0 ≤ l ∧ l ≤ 65535 ∧ ¬ 1 ≤ n) ∨ (1 ≤ k ∧ k ≤ 3 ∧ 0 ≤ l ∧ l ≤ 65535 ∧ 1 ≤ n ∧ ¬ n ≤ 255) ∨ (1 ≤ k ∧ k ≤ 3 ∧ 0 ≤ l ∧ l ≤ 65535 ∧ 1 ≤ n ∧ n ≤ 255 ∧ ¬ 0 ≤ p) ∨ (1 ≤ k ∧ k ≤ 3 ∧ 0 ≤ l ∧ l ≤ 65535 ∧ 1 ≤ n ∧ n ≤ 255 ∧ 0 ≤ p ∧ ¬ p < n) := by
    unfold TagOk at h; omega
  clear h
  rcases hs with h1 | ⟨h1, h2⟩ | ⟨h1, h2, h3⟩ | ⟨h1, h2, h3, h4⟩ | ⟨h1, h2, h3, h4, h5⟩ | ⟨h1, h2, h3, h4, h5, h6⟩ | ⟨h1, h2, h3, h4, h5, h6, h7⟩ | ⟨h1, h2, h3, h4, h5, h6, h7, h8⟩
  all_goals
    go_enter Tryz.func61, Tryz.ntmps61
    go_wp2
    go_ret
    exact ⟨rfl, (Below.refl _ _).alloc (Nat.le_refl _) _⟩
/-- are all bytes 255? -/
def AllFF (s : ByteArray) : Prop := ∀ c ∈ s.data.toList, c = 255
theorem countB_all (l : List UInt8) : ((Lib.countByte l 255 : Int) = (l.length : Int)) ↔ ∀ c ∈ l, c = 255 := by
  unfold Lib.countByte
  have h := List.count_eq_length (a := (255 : UInt8)) (l := l)
  constructor
  · intro e c hc
    exact (h.1 (by exact_mod_cast e) c hc).symm
  · intro e
    exact_mod_cast h.2 (fun c hc => (e c hc).symm)
theorem blank_yes (d b : ByteArray) (hd : AllFF d) (hb : AllFF b) (w : World) :
    Calls Tryz.prog 36 #[.string d, .string b] w fun e w' => e = .returned (.bool true) ∧ w = w' := by
  have H1 := hide ((countB_all d.data.toList).2 hd)
  have H2 := hide ((countB_all b.data.toList).2 hb)
  clear hd hb
  go_enter Tryz.func36, Tryz.ntmps36
  go_wp2_with fail
  refine (Tryz.strings_Count_one d 255 _).mono ?_
  rintro e w1 ⟨rfl, rfl⟩
  rw [H1.out, size_list]
  go_wp2_with fail
  refine (Tryz.strings_Count_one b 255 _).mono ?_
  rintro e w1 ⟨rfl, rfl⟩
  rw [H2.out, size_list]
  go_wp2_with fail
  go_ret
  exact ⟨rfl, rfl⟩
theorem blank_no (d b : ByteArray) (h : ¬ (AllFF d ∧ AllFF b)) (w : World) :
    Calls Tryz.prog 36 #[.string d, .string b] w fun e w' => e = .returned (.bool false) ∧ w = w' := by
  by_cases hd : AllFF d
  · have hb : ¬ AllFF b := fun e => h ⟨hd, e⟩
    have H1 := hide ((countB_all d.data.toList).2 hd)
    have hx : (((Lib.countByte b.data.toList 255 : Nat) : Int) == (b.size : Int)) = false := by
      rw [beq_eq_false_iff_ne, ← size_list]
      exact fun e => hb ((countB_all b.data.toList).1 e)
    have HX := hide hx
    clear h hd hb hx
    go_enter Tryz.func36, Tryz.ntmps36
    go_wp2_with fail
    refine (Tryz.strings_Count_one d 255 _).mono ?_
    rintro e w1 ⟨rfl, rfl⟩
    rw [H1.out, size_list]
    go_wp2_with fail
    refine (Tryz.strings_Count_one b 255 _).mono ?_
    rintro e w1 ⟨rfl, rfl⟩
    have hx := HX.out
    go_wp2_with fail
    go_ret
    exact ⟨rfl, rfl⟩
  · have hx : (((Lib.countByte d.data.toList 255 : Nat) : Int) == (d.size : Int)) = false := by
      rw [beq_eq_false_iff_ne, ← size_list]
      exact fun e => hd ((countB_all d.data.toList).1 e)
    have HX := hide hx
    clear h hd hx
    go_enter Tryz.func36, Tryz.ntmps36
    go_wp2_with fail
    refine (Tryz.strings_Count_one d 255 _).mono ?_
    rintro e w1 ⟨rfl, rfl⟩
    have hx := HX.out
    go_wp2_with fail
    go_ret
    exact ⟨rfl, rfl⟩
/-- do these bytes tell that a block is bad from the factory? -/
def factB (b : ByteArray) : Bool := b.size == 32 && !(Lib.hasPrefix b.data.toList [255])
theorem factory_any (b : ByteArray) (hb : b.size ≤ 9223372036854775807) (w : World) :
    Calls Tryz.prog 37 #[.string b] w fun e w' => e = .returned (.bool (factB b)) ∧ w = w' := by
  by_cases h : b.size = 32
  · have HZ := hide (show (!(Lib.hasPrefix b.data.toList [255])) = factB b by unfold factB; rw [h]; rfl)
    have hx : ((b.size : Int) == 32) = true := by rw [h]; rfl
    have HX := hide hx
    clear h hx
    generalize factB b = z at *
    have hx := HX.out
    go_enter Tryz.func37, Tryz.ntmps37
    go_wp2_with fail
    refine (Tryz.strings_HasPrefix b ⟨#[255]⟩ _).mono ?_
    rintro e w1 ⟨rfl, rfl⟩
    generalize Lib.hasPrefix b.data.toList (ByteArray.mk #[255]).data.toList = y at *
    go_wp2_with fail
    go_ret
    exact ⟨ret_bb (by first | exact HZ.out | rfl), rfl⟩
  · have HZ := hide (show false = factB b by unfold factB; rw [beq_eq_false_iff_ne.2 h]; rfl)
    have hx : ((b.size : Int) == 32) = false := by rw [beq_eq_false_iff_ne]; omega
    clear h
    generalize factB b = z at *
    go_enter Tryz.func37, Tryz.ntmps37
    go_wp2_with fail
    go_ret
    exact ⟨ret_bb HZ.out, rfl⟩
end Go.Proofs.YtjfmkfhjbdiojaaGreat

namespace Go.Proofs.YtjfmkfhjbdiojaaGreat
set_option linter.unusedSimpArgs false
set_option linter.unusedVariables false

/-- a tag's fields, as bytes -/
def fieldsL (k l s p n : Nat) : List UInt8 := putL k 1 ++ putL l 2 ++ putL s 8 ++ putL p 1 ++ putL n 1
def headL (k l s p n : Nat) : List UInt8 := [255] ++ fieldsL k l s p n ++ List.replicate 14 0
theorem fieldsL_length (k l s p n : Nat) : (fieldsL k l s p n).length = 13 := by simp [fieldsL]
theorem headL_length (k l s p n : Nat) : (headL k l s p n).length = 28 := by simp [headL, fieldsL_length]
def sumL (d h : List UInt8) : List UInt8 := putL (cN (d ++ h)) 4
theorem sumL_length (d h : List UInt8) : (sumL d h).length = 4 := by simp [sumL]
def headZ (k l s p n : Int) : List UInt8 := headL k.toNat l.toNat s.toNat p.toNat n.toNat
theorem headZ_length (k l s p n : Int) : (headZ k l s p n).length = 28 := headL_length ..
def frameL (k l s p n : Int) (d : List UInt8) : List UInt8 := headZ k l s p n ++ sumL d (headZ k l s p n)
theorem frameL_length (k l s p n : Int) (d : List UInt8) : (frameL k l s p n d).length = 32 := by simp [frameL, headZ_length, sumL_length]
/-- a field of bytes, from a place on -/
def fld (h : List UInt8) (a b : Nat) : Nat := getN ((h.drop a).take b)
theorem fld_lt (h : List UInt8) (a b : Nat) : fld h a b < 256 ^ b := by
  unfold fld
  refine Nat.lt_of_lt_of_le (getN_lt _) (Nat.pow_le_pow_right (by omega) ?_)
  rw [List.length_take]
  omega
theorem headZ_fields (k l s p n : Int) (h : TagOk k l p n) (s0 : 0 ≤ s) (s1 : s ≤ 18446744073709551615) :
    (fld (headZ k l s p n) 1 1 : Int) = k ∧ (fld (headZ k l s p n) 2 2 : Int) = l ∧ (fld (headZ k l s p n) 4 8 : Int) = s ∧ (fld (headZ k l s p n) 12 1 : Int) = p ∧ (fld (headZ k l s p n) 13 1 : Int) = n := by
  obtain ⟨h1, h2, h3, h4, h5, h6, h7, h8⟩ := h
  have e : headZ k l s p n = [255] ++ (putL k.toNat 1 ++ (putL l.toNat 2 ++ (putL s.toNat 8 ++ (putL p.toNat 1 ++ (putL n.toNat 1 ++ List.replicate 14 0))))) := by
    simp [headZ, headL, fieldsL]
  have cut : ∀ (a b c : List UInt8), ((a ++ (b ++ c)).drop a.length).take b.length = b := fun a b c => by rw [List.drop_left, List.take_left]
  have f1 := cut [255] (putL k.toNat 1) (putL l.toNat 2 ++ (putL s.toNat 8 ++ (putL p.toNat 1 ++ (putL n.toNat 1 ++ List.replicate 14 0))))
  have f2 := cut ([255] ++ putL k.toNat 1) (putL l.toNat 2) (putL s.toNat 8 ++ (putL p.toNat 1 ++ (putL n.toNat 1 ++ List.replicate 14 0)))
  have f3 := cut ([255] ++ putL k.toNat 1 ++ putL l.toNat 2) (putL s.toNat 8) (putL p.toNat 1 ++ (putL n.toNat 1 ++ List.replicate 14 0))
  have f4 := cut ([255] ++ putL k.toNat 1 ++ putL l.toNat 2 ++ putL s.toNat 8) (putL p.toNat 1) (putL n.toNat 1 ++ List.replicate 14 0)
  have f5 := cut ([255] ++ putL k.toNat 1 ++ putL l.toNat 2 ++ putL s.toNat 8 ++ putL p.toNat 1) (putL n.toNat 1) (List.replicate 14 0)
  simp only [List.append_assoc] at f1 f2 f3 f4 f5
  rw [← e] at f1 f2 f3 f4 f5
  simp only [List.length_append, putL_length, List.length_cons, List.length_nil, Nat.zero_add, Nat.reduceAdd] at f1 f2 f3 f4 f5
  unfold fld
  rw [f1, f2, f3, f4, f5]
  simp only [getN_putL]
  omega
/-- which error is told of bytes, and which tag -/
def OkHead (h : List UInt8) : Prop := TagOk (fld h 1 1) (fld h 2 2) (fld h 12 1) (fld h 13 1) ∧ headZ (fld h 1 1) (fld h 2 2) (fld h 4 8) (fld h 12 1) (fld h 13 1) = h
open Classical in
noncomputable def parseE (d b : List UInt8) : Int := if b.length ≠ 32 then 4 else if ¬ OkHead (b.take 28) then 4 else if sumL d (b.take 28) ≠ b.drop 28 then 5 else 0
open Classical in
noncomputable def parseV (d b : List UInt8) : Value := if parseE d b = 0 then tagV (fld b 1 1) (fld b 2 2) (fld b 4 8) (fld b 12 1) (fld b 13 1) else tagV 0 0 0 0 0
theorem fld_take (b : List UInt8) (a c : Nat) (h : a + c ≤ 28) : fld (b.take 28) a c = fld b a c := by
  unfold fld
  rw [List.drop_take, List.take_take, Nat.min_eq_left (by omega)]
theorem parseE_len (d b : List UInt8) (h : b.length ≠ 32) : parseE d b = 4 := by rw [parseE, if_pos h]
theorem parseE_form (d b : List UInt8) (h : ¬ OkHead (b.take 28)) : parseE d b = 4 := by
  by_cases h0 : b.length ≠ 32
  · rw [parseE, if_pos h0]
  · rw [parseE, if_neg h0, if_pos h]
theorem parseE_sum (d b : List UInt8) (h0 : b.length = 32) (h1 : OkHead (b.take 28)) (h : sumL d (b.take 28) ≠ b.drop 28) : parseE d b = 5 := by
  rw [parseE, if_neg (by omega), if_neg (by simpa using h1), if_pos h]
theorem parseE_ok (d b : List UInt8) (h0 : b.length = 32) (h1 : OkHead (b.take 28)) (h : sumL d (b.take 28) = b.drop 28) : parseE d b = 0 := by
  rw [parseE, if_neg (by omega), if_neg (by simpa using h1), if_neg (by simpa using h)]
theorem parseE_zero (d b : List UInt8) (h : parseE d b = 0) : b.length = 32 ∧ OkHead (b.take 28) ∧ sumL d (b.take 28) = b.drop 28 := by
  by_cases h0 : b.length = 32
  · by_cases h1 : OkHead (b.take 28)
    · by_cases h2 : sumL d (b.take 28) = b.drop 28
      · exact ⟨h0, h1, h2⟩
      · rw [parseE_sum d b h0 h1 h2] at h; omega
    · rw [parseE_form d b h1] at h; omega
  · rw [parseE_len d b h0] at h; omega
theorem parseE_is (d b : List UInt8) : parseE d b = 0 ∨ parseE d b = 4 ∨ parseE d b = 5 := by
  unfold parseE
  split
  · simp
  · split
    · simp
    · split <;> simp
theorem parseV_no (d b : List UInt8) (h : parseE d b ≠ 0) : parseV d b = tagV 0 0 0 0 0 := by rw [parseV, if_neg h]
theorem parseV_ok (d b : List UInt8) (h : parseE d b = 0) : parseV d b = tagV (fld b 1 1) (fld b 2 2) (fld b 4 8) (fld b 12 1) (fld b 13 1) := by rw [parseV, if_pos h]
theorem okHead_frame (k l s p n : Int) (h : TagOk k l p n) (s0 : 0 ≤ s) (s1 : s ≤ 18446744073709551615) : OkHead (headZ k l s p n) := by
  obtain ⟨e1, e2, e3, e4, e5⟩ := headZ_fields k l s p n h s0 s1
  unfold OkHead
  rw [e1, e2, e3, e4, e5]
  exact ⟨h, rfl⟩
theorem frame_take (k l s p n : Int) (d : List UInt8) : (frameL k l s p n d).take 28 = headZ k l s p n ∧ (frameL k l s p n d).drop 28 = sumL d (headZ k l s p n) := by
  unfold frameL
  have := headZ_length k l s p n
  rw [← this, List.take_left, List.drop_left]
  exact ⟨rfl, rfl⟩
theorem parse_frame (k l s p n : Int) (h : TagOk k l p n) (s0 : 0 ≤ s) (s1 : s ≤ 18446744073709551615) (d : List UInt8) :
    parseE d (frameL k l s p n d) = 0 ∧ parseV d (frameL k l s p n d) = tagV k l s p n := by
  obtain ⟨h1, h2⟩ := frame_take k l s p n d
  have hz : parseE d (frameL k l s p n d) = 0 := parseE_ok _ _ (frameL_length ..) (by rw [h1]; exact okHead_frame k l s p n h s0 s1) (by rw [h1, h2])
  refine ⟨hz, ?_⟩
  obtain ⟨e1, e2, e3, e4, e5⟩ := headZ_fields k l s p n h s0 s1
  rw [parseV_ok _ _ hz, ← fld_take _ 1 1 (by omega), ← fld_take _ 2 2 (by omega), ← fld_take _ 4 8 (by omega), ← fld_take _ 12 1 (by omega), ← fld_take _ 13 1 (by omega), h1, e1, e2, e3, e4, e5]
/-- bytes of the same length, but for one place -/
theorem one_other {a b : List UInt8} (i : Nat) (hi : i < a.length) (x : UInt8) (h : b = a.set i x) : ∃ u v, a = u ++ a.getD i 0 :: v ∧ b = u ++ x :: v ∧ u.length = i := by
  refine ⟨a.take i, a.drop (i + 1), ?_, ?_, by simp; omega⟩
  · have : a.getD i 0 = a[i] := by simp [List.getD, hi]
    rw [this, ← List.drop_eq_getElem_cons hi, List.take_append_drop]
  · rw [h, List.set_eq_take_append_cons_drop, if_pos hi]
theorem putL_inj4 (x y : Nat) (hx : x ≤ 4294967295) (hy : y ≤ 4294967295) (h : putL x 4 = putL y 4) : x = y := by
  have := congrArg getN h
  rw [getN_putL, getN_putL] at this
  omega
/-- one byte another one: the bytes are no tag's -/
theorem parse_torn (d b : List UInt8) (h : parseE d b = 0) (i : Nat) (hi : i < d.length + b.length) (x : UInt8) (hx : x ≠ (d ++ b).getD i 0) :
    parseE (((d ++ b).set i x).take d.length) (((d ++ b).set i x).drop d.length) ≠ 0 := by
  intro hc
  obtain ⟨h0, h1, h2⟩ := parseE_zero _ _ h
  obtain ⟨g0, g1, g2⟩ := parseE_zero _ _ hc
  clear h hc h1 g1
  have hb : b = b.take 28 ++ b.drop 28 := (List.take_append_drop 28 b).symm
  have hh28 : (b.take 28).length = 28 := by rw [List.length_take]; omega
  generalize b.take 28 = hd at *
  generalize b.drop 28 = tl at *
  subst hb
  subst h2
  have hl4 := sumL_length d hd
  by_cases h3 : i < d.length + 28
  · -- in the data or in the bytes up to the check
    have hi2 : i < (d ++ hd).length := by rw [List.length_append]; omega
    have e1 : (d ++ (hd ++ sumL d hd)).set i x = (d ++ hd).set i x ++ sumL d hd := by
      rw [← List.append_assoc, List.set_append_left _ _ hi2]
    have e2 : (d ++ (hd ++ sumL d hd)).getD i 0 = (d ++ hd).getD i 0 := by
      rw [← List.append_assoc]
      simp only [List.getD]
      rw [List.getElem?_append_left hi2]
    rw [e1] at g2
    rw [e2] at hx
    obtain ⟨u, v, hu, hv, -⟩ := one_other i hi2 x rfl
    have hlen : ((d ++ hd).set i x).length = d.length + 28 := by rw [List.length_set, List.length_append, hh28]
    have f1 : ((d ++ hd).set i x ++ sumL d hd).take d.length = ((d ++ hd).set i x).take d.length := by rw [List.take_append_of_le_length (by omega)]
    have f2 : ((d ++ hd).set i x ++ sumL d hd).drop d.length = ((d ++ hd).set i x).drop d.length ++ sumL d hd := by rw [List.drop_append_of_le_length (by omega)]
    have f3 : (((d ++ hd).set i x).drop d.length).length = 28 := by rw [List.length_drop]; omega
    have f4 : (((d ++ hd).set i x).drop d.length ++ sumL d hd).take 28 = ((d ++ hd).set i x).drop d.length := by
      rw [← f3, List.take_left]
    have f5 : (((d ++ hd).set i x).drop d.length ++ sumL d hd).drop 28 = sumL d hd := by
      rw [← f3, List.drop_left]
    rw [f1, f2, f4, f5] at g2
    unfold sumL at g2
    rw [List.take_append_drop] at g2
    have := putL_inj4 _ _ (cN_le _) (cN_le _) g2
    rw [hv, hu] at this
    exact hx (cN_one_other _ _ _ _ this)
  · -- in the check
    have hi3 : i - (d.length + 28) < 4 := by simp only [List.length_append] at hi; omega
    have e1 : (d ++ (hd ++ sumL d hd)).set i x = d ++ (hd ++ (sumL d hd).set (i - (d.length + 28)) x) := by
      rw [List.set_append_right _ _ (by omega), List.set_append_right _ _ (by omega), hh28, Nat.sub_sub]
    have e2 : (d ++ (hd ++ sumL d hd)).getD i 0 = (sumL d hd).getD (i - (d.length + 28)) 0 := by
      simp only [List.getD]
      rw [List.getElem?_append_right (by omega), List.getElem?_append_right (by omega), hh28, Nat.sub_sub]
    rw [e1, List.take_left, List.drop_left] at g2
    have f4 : (hd ++ (sumL d hd).set (i - (d.length + 28)) x).take 28 = hd := by rw [← hh28, List.take_left]
    have f5 : (hd ++ (sumL d hd).set (i - (d.length + 28)) x).drop 28 = (sumL d hd).set (i - (d.length + 28)) x := by rw [← hh28, List.drop_left]
    rw [f4, f5] at g2
    rw [e2] at hx
    apply hx
    have := congrArg (fun l => l.getD (i - (d.length + 28)) 0) g2
    simp only [List.getD] at this ⊢
    rw [this, List.getElem?_set_self (by omega)]
    rfl
/-- unlike tags have unlike bytes -/
theorem head_inj {k l s p n k' l' s' p' n' : Int} (h : TagOk k l p n) (s0 : 0 ≤ s) (s1 : s ≤ 18446744073709551615) (h' : TagOk k' l' p' n') (s0' : 0 ≤ s') (s1' : s' ≤ 18446744073709551615)
    (e : headZ k l s p n = headZ k' l' s' p' n') : k = k' ∧ l = l' ∧ s = s' ∧ p = p' ∧ n = n' := by
  obtain ⟨a1, a2, a3, a4, a5⟩ := headZ_fields k l s p n h s0 s1
  obtain ⟨b1, b2, b3, b4, b5⟩ := headZ_fields k' l' s' p' n' h' s0' s1'
  rw [e] at a1 a2 a3 a4 a5
  omega
end Go.Proofs.YtjfmkfhjbdiojaaGreat

namespace Go.Proofs.YtjfmkfhjbdiojaaGreat
set_option linter.unusedSimpArgs false
set_option linter.unusedVariables false
open Go.RowKit Go.WideShapes Go.ChangeShapes Go.ChangeAt

theorem wrAt_new (w : World) : WrAt (w.alloc (.cells #[.slice none 0 0, .bool false] 181)) w.heap.size w.heap.size [] false :=
  ⟨none, 0, heap_new _ _, ⟨rfl, .inl ⟨rfl, rfl⟩⟩⟩
theorem WrAt.drew {w : World} {B p : Nat} {l : List UInt8} {bad : Bool} (h : WrAt w B p l bad) : WrAt w.drew B p l bad := h
theorem wnumber_ok (B p : Nat) (l : List UInt8) (hl : l.length ≤ 1000) (n : Int) (n0 : 0 ≤ n) (n1 : n ≤ 18446744073709551615) (wd : Int) (w1 : 1 ≤ wd) (w8 : wd ≤ 8) (hf : n.toNat < 256 ^ wd.toNat) (w : World) (h : WrAt w B p l false) (hBp : B ≤ p) :
    Calls Tryz.prog 101 #[.pointer (some ⟨p, 0, none⟩), .int .u64 n, .int .i64 wd] w fun e w' => e = .returned (.pointer (some ⟨p, 0, none⟩)) ∧ WrAt w' B p (l ++ putL n.toNat wd.toNat) false ∧ Below B w w' := by
  have hx := wnumber_any B p l false (by omega) n n0 n1 wd w h hBp
  have e1 : fitsB n.toNat wd = true := by unfold fitsB; exact decide_eq_true ⟨w1, w8, hf⟩
  have e2 : putS n wd = putL n.toNat wd.toNat := by unfold putS; rw [if_pos ⟨w1, w8⟩]
  rw [e1, e2] at hx
  exact hx
theorem ret_strs {a b : ByteArray} (h : a = b) : Ending.returned (.string a) = .returned (.string b) := by rw [h]
theorem ret_str2 {a b : ByteArray} {v : Value} (h : a = b) : Ending.returned (.tuple #[.string a, v]) = .returned (.tuple #[.string b, v]) := by rw [h]
theorem rep14 : (Lib.repeatL (ByteArray.mk #[0]).data.toList 14) = List.replicate 14 0 := by decide
theorem cell_kept {B : Nat} {w w' : World} {b o : Nat} {v : Value} (hb : Below B w w') (hlt : b < B) (h : w.cell? ⟨b, o, none⟩ = some v) : w'.cell? ⟨b, o, none⟩ = some v := by
  rw [hb.cell (p := ⟨b, o, none⟩) hlt]; exact h
set_option maxRecDepth 100000 in
set_option maxHeartbeats 1000000 in
theorem head_any (k l s p n : Int) (h : TagOk k l p n) (s0 : 0 ≤ s) (s1 : s ≤ 18446744073709551615) (w : World) :
    Calls Tryz.prog 72 #[.agg #[.int .u8 k, .int .i64 l, .int .u64 s, .int .i64 p, .int .i64 n]] w fun e w' => e = .returned (.string (bs (headZ k l s p n))) ∧ Below w.heap.size w w' := by
  obtain ⟨h1, h2, h3, h4, h5, h6, h7, h8⟩ := h
  have u1 : IntKind.u64.wrap k = k := wraps_u64 _ (by omega) (by omega)
  have u2 : IntKind.u64.wrap l = l := wraps_u64 _ (by omega) (by omega)
  have u4 : IntKind.u64.wrap p = p := wraps_u64 _ (by omega) (by omega)
  have u5 : IntKind.u64.wrap n = n := wraps_u64 _ (by omega) (by omega)
  have HA := hide (heap_new w (.cells #[.int .u8 k, .int .i64 l, .int .u64 s, .int .i64 p, .int .i64 n] 47))
  have HW0 := hide (show WrAt (((w.alloc (.cells #[.int .u8 k, .int .i64 l, .int .u64 s, .int .i64 p, .int .i64 n] 47)).alloc (.cells #[.slice none 0 0, .bool false] 181)).drew) (w.heap.size + 1) (w.heap.size + 1) [] false from by
    have := wrAt_new (w.alloc (.cells #[.int .u8 k, .int .i64 l, .int .u64 s, .int .i64 p, .int .i64 n] 47))
    rwa [show (w.alloc (.cells #[.int .u8 k, .int .i64 l, .int .u64 s, .int .i64 p, .int .i64 n] 47)).heap.size = w.heap.size + 1 by simp] at this)
  have HB0 := hide (show Below w.heap.size w (((w.alloc (.cells #[.int .u8 k, .int .i64 l, .int .u64 s, .int .i64 p, .int .i64 n] 47)).alloc (.cells #[.slice none 0 0, .bool false] 181)).drew) from (((Below.refl _ _).alloc (Nat.le_refl _) _).alloc (by simp) _).drew)
  have HST : Hid ((fun W => W.cell? ⟨w.heap.size, 0, none⟩ = some (.int .u8 k) ∧ W.cell? ⟨w.heap.size, 1, none⟩ = some (.int .i64 l) ∧ W.cell? ⟨w.heap.size, 2, none⟩ = some (.int .u64 s) ∧ W.cell? ⟨w.heap.size, 3, none⟩ = some (.int .i64 p) ∧ W.cell? ⟨w.heap.size, 4, none⟩ = some (.int .i64 n)) (((w.alloc (.cells #[.int .u8 k, .int .i64 l, .int .u64 s, .int .i64 p, .int .i64 n] 47)).alloc (.cells #[.slice none 0 0, .bool false] 181)).drew)) := hide (by
    have hh : (((w.alloc (.cells #[.int .u8 k, .int .i64 l, .int .u64 s, .int .i64 p, .int .i64 n] 47)).alloc (.cells #[.slice none 0 0, .bool false] 181)).drew).heap[w.heap.size]? = some (.cells #[.int .u8 k, .int .i64 l, .int .u64 s, .int .i64 p, .int .i64 n] 47 (0, 0)) := (heap_old (w.alloc (.cells #[.int .u8 k, .int .i64 l, .int .u64 s, .int .i64 p, .int .i64 n] 47)) _ w.heap.size (by simp)).trans HA.out
    exact ⟨by rw [cell_of_block hh]; rfl, by rw [cell_of_block hh]; rfl, by rw [cell_of_block hh]; rfl, by rw [cell_of_block hh]; rfl, by rw [cell_of_block hh]; rfl⟩)
  clear HA
  go_enter Tryz.func72, Tryz.ntmps72
  go_upto_region 2 with (fail)
  refine wp_region_held_drew (S := (fun W => W.cell? ⟨w.heap.size, 0, none⟩ = some (.int .u8 k) ∧ W.cell? ⟨w.heap.size, 1, none⟩ = some (.int .i64 l) ∧ W.cell? ⟨w.heap.size, 2, none⟩ = some (.int .u64 s) ∧ W.cell? ⟨w.heap.size, 3, none⟩ = some (.int .i64 p) ∧ W.cell? ⟨w.heap.size, 4, none⟩ = some (.int .i64 n))) (by kernel_rfl) (HST.out) (fun hHeld => ?_)
  refine wpAnyH_take (i := 0) (oi := { dst := some 6, op := Op.fieldAddr 47 (Operand.tmp 1) 0, type := 0, pos := "tag.go:51", after := #[], guard := none }) (v := ?_) rfl (by kernel_rfl) (by kernel_rfl) (by kernel_rfl) (fun _ _ _ h => h) (Or.inl ⟨by kernel_rfl, ?_⟩) hHeld ?_
  rotate_left
  · (intro w hSw; (try dsimp only at hSw); go_simp); try with_reducible rfl
  try simp only [Act.put, List.setIfInBounds_toArray, List.set_cons_zero, List.set_cons_succ]
  refine wpAnyH_take (i := 1) (oi := { dst := some 7, op := Op.load 45 (Operand.tmp 6), type := 45, pos := "tag.go:51", after := #[{ on := 0, ground := Ground.data }], guard := none }) (v := ?_) rfl (by kernel_rfl) (by kernel_rfl) (by kernel_rfl) (fun _ _ _ h => h) (Or.inl ⟨by kernel_rfl, ?_⟩) hHeld ?_
  rotate_left
  · (intro w hSw; (try dsimp only at hSw); go_simp); try with_reducible rfl
  try simp only [Act.put, List.setIfInBounds_toArray, List.set_cons_zero, List.set_cons_succ]
  refine wpAnyH_take (i := 2) (oi := { dst := some 8, op := Op.convert 45 39 (Operand.tmp 7), type := 39, pos := "tag.go:51", after := #[{ on := 1, ground := Ground.data }], guard := none }) (v := ?_) rfl (by kernel_rfl) (by kernel_rfl) (by kernel_rfl) (fun _ _ _ h => h) (Or.inl ⟨by kernel_rfl, ?_⟩) hHeld ?_
  rotate_left
  · (intro w hSw; (try dsimp only at hSw); go_simp); try with_reducible rfl
  try simp only [Act.put, List.setIfInBounds_toArray, List.set_cons_zero, List.set_cons_succ]
  refine wpAnyH_take (i := 4) (oi := { dst := some 10, op := Op.fieldAddr 47 (Operand.tmp 1) 1, type := 0, pos := "tag.go:51", after := #[], guard := none }) (v := ?_) rfl (by kernel_rfl) (by kernel_rfl) (by kernel_rfl) (fun _ _ _ h => h) (Or.inl ⟨by kernel_rfl, ?_⟩) hHeld ?_
  rotate_left
  · (intro w hSw; (try dsimp only at hSw); go_simp); try with_reducible rfl
  try simp only [Act.put, List.setIfInBounds_toArray, List.set_cons_zero, List.set_cons_succ]
  refine wpAnyH_take (i := 5) (oi := { dst := some 11, op := Op.load 3 (Operand.tmp 10), type := 3, pos := "tag.go:51", after := #[{ on := 4, ground := Ground.data }], guard := none }) (v := ?_) rfl (by kernel_rfl) (by kernel_rfl) (by kernel_rfl) (fun _ _ _ h => h) (Or.inl ⟨by kernel_rfl, ?_⟩) hHeld ?_
  rotate_left
  · (intro w hSw; (try dsimp only at hSw); go_simp); try with_reducible rfl
  try simp only [Act.put, List.setIfInBounds_toArray, List.set_cons_zero, List.set_cons_succ]
  refine wpAnyH_take (i := 6) (oi := { dst := some 12, op := Op.convert 3 39 (Operand.tmp 11), type := 39, pos := "tag.go:51", after := #[{ on := 5, ground := Ground.data }], guard := none }) (v := ?_) rfl (by kernel_rfl) (by kernel_rfl) (by kernel_rfl) (fun _ _ _ h => h) (Or.inl ⟨by kernel_rfl, ?_⟩) hHeld ?_
  rotate_left
  · (intro w hSw; (try dsimp only at hSw); go_simp); try with_reducible rfl
  try simp only [Act.put, List.setIfInBounds_toArray, List.set_cons_zero, List.set_cons_succ]
  refine wpAnyH_take (i := 8) (oi := { dst := some 14, op := Op.fieldAddr 47 (Operand.tmp 1) 2, type := 0, pos := "tag.go:51", after := #[], guard := none }) (v := ?_) rfl (by kernel_rfl) (by kernel_rfl) (by kernel_rfl) (fun _ _ _ h => h) (Or.inl ⟨by kernel_rfl, ?_⟩) hHeld ?_
  rotate_left
  · (intro w hSw; (try dsimp only at hSw); go_simp); try with_reducible rfl
  try simp only [Act.put, List.setIfInBounds_toArray, List.set_cons_zero, List.set_cons_succ]
  refine wpAnyH_take (i := 9) (oi := { dst := some 15, op := Op.load 39 (Operand.tmp 14), type := 39, pos := "tag.go:51", after := #[{ on := 8, ground := Ground.data }], guard := none }) (v := ?_) rfl (by kernel_rfl) (by kernel_rfl) (by kernel_rfl) (fun _ _ _ h => h) (Or.inl ⟨by kernel_rfl, ?_⟩) hHeld ?_
  rotate_left
  · (intro w hSw; (try dsimp only at hSw); go_simp); try with_reducible rfl
  try simp only [Act.put, List.setIfInBounds_toArray, List.set_cons_zero, List.set_cons_succ]
  refine wpAnyH_take (i := 11) (oi := { dst := some 17, op := Op.fieldAddr 47 (Operand.tmp 1) 3, type := 0, pos := "tag.go:51", after := #[], guard := none }) (v := ?_) rfl (by kernel_rfl) (by kernel_rfl) (by kernel_rfl) (fun _ _ _ h => h) (Or.inl ⟨by kernel_rfl, ?_⟩) hHeld ?_
  rotate_left
  · (intro w hSw; (try dsimp only at hSw); go_simp); try with_reducible rfl
  try simp only [Act.put, List.setIfInBounds_toArray, List.set_cons_zero, List.set_cons_succ]
  refine wpAnyH_take (i := 12) (oi := { dst := some 18, op := Op.load 3 (Operand.tmp 17), type := 3, pos := "tag.go:51", after := #[{ on := 11, ground := Ground.data }], guard := none }) (v := ?_) rfl (by kernel_rfl) (by kernel_rfl) (by kernel_rfl) (fun _ _ _ h => h) (Or.inl ⟨by kernel_rfl, ?_⟩) hHeld ?_
  rotate_left
  · (intro w hSw; (try dsimp only at hSw); go_simp); try with_reducible rfl
  try simp only [Act.put, List.setIfInBounds_toArray, List.set_cons_zero, List.set_cons_succ]
  refine wpAnyH_take (i := 13) (oi := { dst := some 19, op := Op.convert 3 39 (Operand.tmp 18), type := 39, pos := "tag.go:51", after := #[{ on := 12, ground := Ground.data }], guard := none }) (v := ?_) rfl (by kernel_rfl) (by kernel_rfl) (by kernel_rfl) (fun _ _ _ h => h) (Or.inl ⟨by kernel_rfl, ?_⟩) hHeld ?_
  rotate_left
  · (intro w hSw; (try dsimp only at hSw); go_simp); try with_reducible rfl
  try simp only [Act.put, List.setIfInBounds_toArray, List.set_cons_zero, List.set_cons_succ]
  refine wpAnyH_take (i := 15) (oi := { dst := some 21, op := Op.fieldAddr 47 (Operand.tmp 1) 4, type := 0, pos := "tag.go:51", after := #[], guard := none }) (v := ?_) rfl (by kernel_rfl) (by kernel_rfl) (by kernel_rfl) (fun _ _ _ h => h) (Or.inl ⟨by kernel_rfl, ?_⟩) hHeld ?_
  rotate_left
  · (intro w hSw; (try dsimp only at hSw); go_simp); try with_reducible rfl
  try simp only [Act.put, List.setIfInBounds_toArray, List.set_cons_zero, List.set_cons_succ]
  refine wpAnyH_take (i := 16) (oi := { dst := some 22, op := Op.load 3 (Operand.tmp 21), type := 3, pos := "tag.go:51", after := #[{ on := 15, ground := Ground.data }], guard := none }) (v := ?_) rfl (by kernel_rfl) (by kernel_rfl) (by kernel_rfl) (fun _ _ _ h => h) (Or.inl ⟨by kernel_rfl, ?_⟩) hHeld ?_
  rotate_left
  · (intro w hSw; (try dsimp only at hSw); go_simp); try with_reducible rfl
  try simp only [Act.put, List.setIfInBounds_toArray, List.set_cons_zero, List.set_cons_succ]
  refine wpAnyH_take (i := 17) (oi := { dst := some 23, op := Op.convert 3 39 (Operand.tmp 22), type := 39, pos := "tag.go:51", after := #[{ on := 16, ground := Ground.data }], guard := none }) (v := ?_) rfl (by kernel_rfl) (by kernel_rfl) (by kernel_rfl) (fun _ _ _ h => h) (Or.inl ⟨by kernel_rfl, ?_⟩) hHeld ?_
  rotate_left
  · (intro w hSw; (try dsimp only at hSw); go_simp); try with_reducible rfl
  try simp only [Act.put, List.setIfInBounds_toArray, List.set_cons_zero, List.set_cons_succ]
  refine wpAnyH_ready (rs := [3]) (by kernel_rfl) (by simp) ?_
  refine AllReadyH.cons (o := { dst := some 9, op := Op.call { callee := Callee.value (Operand.func 101), args := #[Operand.tmp 3, Operand.tmp 8, Operand.const (Value.int IntKind.i64 1)], argTypes := #[181, 39, 3] }, type := 182, pos := "tag.go:51", after := #[{ on := 2, ground := Ground.data }], guard := none }) rfl (fun K hK => ?_) AllReadyH.nil
  have hOld := hide hHeld
  clear hHeld
  go_simp
  refine (wnumber_ok (w.heap.size + 1) (w.heap.size + 1) ([]) (by simp) k (by omega) (by omega) 1 (by omega) (by omega) (by rw [show (256 : Nat) ^ (1 : Int).toNat = 256 from by decide]; omega) _ HW0.out (Nat.le_refl _)).mono ?_
  rintro e w1 ⟨rfl, hw, hb⟩
  have HW1 := hide (show WrAt w1 (w.heap.size + 1) (w.heap.size + 1) (putL k.toNat 1) false from hw)
  have HB1 := hide (HB0.out.trans (hb.mono (by omega)))
  have HK := hide (show (fun W => W.cell? ⟨w.heap.size, 0, none⟩ = some (.int .u8 k) ∧ W.cell? ⟨w.heap.size, 1, none⟩ = some (.int .i64 l) ∧ W.cell? ⟨w.heap.size, 2, none⟩ = some (.int .u64 s) ∧ W.cell? ⟨w.heap.size, 3, none⟩ = some (.int .i64 p) ∧ W.cell? ⟨w.heap.size, 4, none⟩ = some (.int .i64 n)) w1 from ⟨cell_kept hb (by omega) hOld.out.1, cell_kept hb (by omega) hOld.out.2.1, cell_kept hb (by omega) hOld.out.2.2.1, cell_kept hb (by omega) hOld.out.2.2.2.1, cell_kept hb (by omega) hOld.out.2.2.2.2⟩)
  clear hw hb HW0 HB0
  (try go_wp2_with fail)
  refine hK.out _ _ (HK.out) (fun hHeld => ?_)
  clear hK K hOld
  try simp only [Act.put, List.setIfInBounds_toArray, List.set_cons_zero, List.set_cons_succ]
  refine wpAnyH_ready (rs := [7]) (by kernel_rfl) (by simp) ?_
  refine AllReadyH.cons (o := { dst := some 13, op := Op.call { callee := Callee.value (Operand.func 101), args := #[Operand.tmp 9, Operand.tmp 12, Operand.const (Value.int IntKind.i64 2)], argTypes := #[182, 39, 3] }, type := 182, pos := "tag.go:51", after := #[{ on := 3, ground := Ground.data }, { on := 6, ground := Ground.data }, { on := 3, ground := Ground.chain }], guard := none }) rfl (fun K hK => ?_) AllReadyH.nil
  have hOld := hide hHeld
  clear hHeld
  go_simp
  refine (wnumber_ok (w.heap.size + 1) (w.heap.size + 1) (putL k.toNat 1) (by simp) l (by omega) (by omega) 2 (by omega) (by omega) (by rw [show (256 : Nat) ^ (2 : Int).toNat = 65536 from by decide]; omega) _ HW1.out (Nat.le_refl _)).mono ?_
  rintro e w2 ⟨rfl, hw, hb⟩
  have HW2 := hide (show WrAt w2 (w.heap.size + 1) (w.heap.size + 1) (putL k.toNat 1 ++ putL l.toNat 2) false from hw)
  have HB2 := hide (HB1.out.trans (hb.mono (by omega)))
  have HK := hide (show (fun W => W.cell? ⟨w.heap.size, 0, none⟩ = some (.int .u8 k) ∧ W.cell? ⟨w.heap.size, 1, none⟩ = some (.int .i64 l) ∧ W.cell? ⟨w.heap.size, 2, none⟩ = some (.int .u64 s) ∧ W.cell? ⟨w.heap.size, 3, none⟩ = some (.int .i64 p) ∧ W.cell? ⟨w.heap.size, 4, none⟩ = some (.int .i64 n)) w2 from ⟨cell_kept hb (by omega) hOld.out.1, cell_kept hb (by omega) hOld.out.2.1, cell_kept hb (by omega) hOld.out.2.2.1, cell_kept hb (by omega) hOld.out.2.2.2.1, cell_kept hb (by omega) hOld.out.2.2.2.2⟩)
  clear hw hb HW1 HB1
  (try go_wp2_with fail)
  refine hK.out _ _ (HK.out) (fun hHeld => ?_)
  clear hK K hOld
  try simp only [Act.put, List.setIfInBounds_toArray, List.set_cons_zero, List.set_cons_succ]
  refine wpAnyH_ready (rs := [10]) (by kernel_rfl) (by simp) ?_
  refine AllReadyH.cons (o := { dst := some 16, op := Op.call { callee := Callee.value (Operand.func 101), args := #[Operand.tmp 13, Operand.tmp 15, Operand.const (Value.int IntKind.i64 8)], argTypes := #[182, 39, 3] }, type := 182, pos := "tag.go:51", after := #[{ on := 7, ground := Ground.data }, { on := 9, ground := Ground.data }, { on := 7, ground := Ground.chain }], guard := none }) rfl (fun K hK => ?_) AllReadyH.nil
  have hOld := hide hHeld
  clear hHeld
  go_simp
  refine (wnumber_ok (w.heap.size + 1) (w.heap.size + 1) (putL k.toNat 1 ++ putL l.toNat 2) (by simp) s (by omega) (by omega) 8 (by omega) (by omega) (by rw [show (256 : Nat) ^ (8 : Int).toNat = 18446744073709551616 from by decide]; omega) _ HW2.out (Nat.le_refl _)).mono ?_
  rintro e w3 ⟨rfl, hw, hb⟩
  have HW3 := hide (show WrAt w3 (w.heap.size + 1) (w.heap.size + 1) (putL k.toNat 1 ++ putL l.toNat 2 ++ putL s.toNat 8) false from hw)
  have HB3 := hide (HB2.out.trans (hb.mono (by omega)))
  have HK := hide (show (fun W => W.cell? ⟨w.heap.size, 0, none⟩ = some (.int .u8 k) ∧ W.cell? ⟨w.heap.size, 1, none⟩ = some (.int .i64 l) ∧ W.cell? ⟨w.heap.size, 2, none⟩ = some (.int .u64 s) ∧ W.cell? ⟨w.heap.size, 3, none⟩ = some (.int .i64 p) ∧ W.cell? ⟨w.heap.size, 4, none⟩ = some (.int .i64 n)) w3 from ⟨cell_kept hb (by omega) hOld.out.1, cell_kept hb (by omega) hOld.out.2.1, cell_kept hb (by omega) hOld.out.2.2.1, cell_kept hb (by omega) hOld.out.2.2.2.1, cell_kept hb (by omega) hOld.out.2.2.2.2⟩)
  clear hw hb HW2 HB2
  (try go_wp2_with fail)
  refine hK.out _ _ (HK.out) (fun hHeld => ?_)
  clear hK K hOld
  try simp only [Act.put, List.setIfInBounds_toArray, List.set_cons_zero, List.set_cons_succ]
  refine wpAnyH_ready (rs := [14]) (by kernel_rfl) (by simp) ?_
  refine AllReadyH.cons (o := { dst := some 20, op := Op.call { callee := Callee.value (Operand.func 101), args := #[Operand.tmp 16, Operand.tmp 19, Operand.const (Value.int IntKind.i64 1)], argTypes := #[182, 39, 3] }, type := 182, pos := "tag.go:51", after := #[{ on := 10, ground := Ground.data }, { on := 13, ground := Ground.data }, { on := 10, ground := Ground.chain }], guard := none }) rfl (fun K hK => ?_) AllReadyH.nil
  have hOld := hide hHeld
  clear hHeld
  go_simp
  refine (wnumber_ok (w.heap.size + 1) (w.heap.size + 1) (putL k.toNat 1 ++ putL l.toNat 2 ++ putL s.toNat 8) (by simp) p (by omega) (by omega) 1 (by omega) (by omega) (by rw [show (256 : Nat) ^ (1 : Int).toNat = 256 from by decide]; omega) _ HW3.out (Nat.le_refl _)).mono ?_
  rintro e w4 ⟨rfl, hw, hb⟩
  have HW4 := hide (show WrAt w4 (w.heap.size + 1) (w.heap.size + 1) (putL k.toNat 1 ++ putL l.toNat 2 ++ putL s.toNat 8 ++ putL p.toNat 1) false from hw)
  have HB4 := hide (HB3.out.trans (hb.mono (by omega)))
  have HK := hide (show (fun W => W.cell? ⟨w.heap.size, 0, none⟩ = some (.int .u8 k) ∧ W.cell? ⟨w.heap.size, 1, none⟩ = some (.int .i64 l) ∧ W.cell? ⟨w.heap.size, 2, none⟩ = some (.int .u64 s) ∧ W.cell? ⟨w.heap.size, 3, none⟩ = some (.int .i64 p) ∧ W.cell? ⟨w.heap.size, 4, none⟩ = some (.int .i64 n)) w4 from ⟨cell_kept hb (by omega) hOld.out.1, cell_kept hb (by omega) hOld.out.2.1, cell_kept hb (by omega) hOld.out.2.2.1, cell_kept hb (by omega) hOld.out.2.2.2.1, cell_kept hb (by omega) hOld.out.2.2.2.2⟩)
  clear hw hb HW3 HB3
  (try go_wp2_with fail)
  refine hK.out _ _ (HK.out) (fun hHeld => ?_)
  clear hK K hOld
  try simp only [Act.put, List.setIfInBounds_toArray, List.set_cons_zero, List.set_cons_succ]
  refine wpAnyH_ready (rs := [18]) (by kernel_rfl) (by simp) ?_
  refine AllReadyH.cons (o := { dst := some 24, op := Op.call { callee := Callee.value (Operand.func 101), args := #[Operand.tmp 20, Operand.tmp 23, Operand.const (Value.int IntKind.i64 1)], argTypes := #[182, 39, 3] }, type := 182, pos := "tag.go:51", after := #[{ on := 14, ground := Ground.data }, { on := 17, ground := Ground.data }, { on := 14, ground := Ground.chain }], guard := none }) rfl (fun K hK => ?_) AllReadyH.nil
  have hOld := hide hHeld
  clear hHeld
  go_simp
  refine (wnumber_ok (w.heap.size + 1) (w.heap.size + 1) (putL k.toNat 1 ++ putL l.toNat 2 ++ putL s.toNat 8 ++ putL p.toNat 1) (by simp) n (by omega) (by omega) 1 (by omega) (by omega) (by rw [show (256 : Nat) ^ (1 : Int).toNat = 256 from by decide]; omega) _ HW4.out (Nat.le_refl _)).mono ?_
  rintro e w5 ⟨rfl, hw, hb⟩
  have HW5 := hide (show WrAt w5 (w.heap.size + 1) (w.heap.size + 1) (putL k.toNat 1 ++ putL l.toNat 2 ++ putL s.toNat 8 ++ putL p.toNat 1 ++ putL n.toNat 1) false from hw)
  have HB5 := hide (HB4.out.trans (hb.mono (by omega)))
  have HK := hide (show (fun W => W.cell? ⟨w.heap.size, 0, none⟩ = some (.int .u8 k) ∧ W.cell? ⟨w.heap.size, 1, none⟩ = some (.int .i64 l) ∧ W.cell? ⟨w.heap.size, 2, none⟩ = some (.int .u64 s) ∧ W.cell? ⟨w.heap.size, 3, none⟩ = some (.int .i64 p) ∧ W.cell? ⟨w.heap.size, 4, none⟩ = some (.int .i64 n)) w5 from ⟨cell_kept hb (by omega) hOld.out.1, cell_kept hb (by omega) hOld.out.2.1, cell_kept hb (by omega) hOld.out.2.2.1, cell_kept hb (by omega) hOld.out.2.2.2.1, cell_kept hb (by omega) hOld.out.2.2.2.2⟩)
  clear hw hb HW4 HB4
  (try go_wp2_with fail)
  refine hK.out _ _ (HK.out) (fun hHeld => ?_)
  clear hK K hOld
  try simp only [Act.put, List.setIfInBounds_toArray, List.set_cons_zero, List.set_cons_succ]
  refine wpAnyH_done (by kernel_rfl) ?_ _
  clear hHeld HK HST
  go_wp2_with fail
  refine (wbytes_any (w.heap.size + 1) (w.heap.size + 1) _ false _ HW5.out).mono ?_
  rintro e w6 ⟨rfl, rfl⟩
  have hfl : (putL k.toNat 1 ++ putL l.toNat 2 ++ putL s.toNat 8 ++ putL p.toNat 1 ++ putL n.toNat 1).length = 13 := by simp
  have HF := hide (show bs (headZ k l s p n) = (ByteArray.mk #[255] ++ bs (putL k.toNat 1 ++ putL l.toNat 2 ++ putL s.toNat 8 ++ putL p.toNat 1 ++ putL n.toNat 1)) ++ bs (List.replicate 14 0) by
    rw [show (ByteArray.mk #[255]) = bs [255] from rfl, bs_append, bs_append]; rfl)
  generalize putL k.toNat 1 ++ putL l.toNat 2 ++ putL s.toNat 8 ++ putL p.toNat 1 ++ putL n.toNat 1 = fl at *
  simp only [Bool.false_eq_true, if_false]
  have hsz : (ByteArray.mk #[255] ++ bs fl).size = 14 := by rw [ByteArray.size_append, bs_size, hfl]; rfl
  have hsf : (bs fl).size = 13 := hfl
  go_wp2_with fail
  have hrep := Tryz.strings_Repeat (ByteArray.mk #[0]) 14 w5 (by omega) (by decide)
  rw [show ((14 : Nat) : Int) = 14 from rfl] at hrep
  refine hrep.mono ?_
  rintro e w7 ⟨rfl, hb⟩
  rw [rep14]
  go_wp2_with fail
  go_ret
  exact ⟨ret_strs HF.out.symm, below_trans HB5.out hb⟩
theorem sum_any6 (b o : Nat) (d h : List UInt8) (hd : d.length ≤ 9223372036854775807) (hh : h.length ≤ 9223372036854775807) (w : World) (ht : TabAt w b o) :
    Calls Tryz.prog 73 #[.pointer (some ⟨b, o, none⟩), .string (bs d), .string (bs h)] w fun e w' => e = .returned (.string (bs (sumL d h))) ∧ Below w.heap.size w w' := by
  have H1 := hide (fun W (hT : TabAt W b o) => more_first b o (bs d) (by rw [bs_size]; exact hd) W hT)
  have H2 := hide (fun W (hT : TabAt W b o) => more_mN b o d (bs h) (by rw [bs_size]; exact hh) W hT)
  rw [bs_toList] at H1 H2
  have hm := mN_lt firstS (d ++ h)
  have hc := cN_le (d ++ h)
  have HC := hide (show (4294967295 : Int) - (mN firstS (d ++ h) : Int) = (cN (d ++ h) : Int) by unfold cN; omega)
  have hw := cN_wrap (d ++ h)
  have HS := hide (show sumL d h = putS ((cN (d ++ h) : Nat) : Int) 4 from by unfold putS; rw [if_pos (by omega)]; rfl)
  generalize cN (d ++ h) = c at *
  generalize mN firstS (d ++ h) = m at *
  generalize mN firstS d = m0 at *
  generalize sumL d h = sm at *
  have HT := hide ht
  clear ht
  go_enter Tryz.func73, Tryz.ntmps73
  go_wp2_with fail
  refine (first_any _).mono ?_
  rintro e w1 ⟨rfl, rfl⟩
  go_wp2_with fail
  refine (H1.out _ HT.out).mono ?_
  rintro e w2 ⟨rfl, n2, rfl⟩
  go_wp2_with fail
  refine (H2.out _ (tabAt_drewN HT.out _)).mono ?_
  rintro e w3 ⟨rfl, n3, rfl⟩
  go_wp2_with fail
  refine (last_any (m : Int) (by omega) (by omega) _).mono ?_
  rintro e w4 ⟨rfl, rfl⟩
  rw [HC.out]
  go_wp2_with fail
  refine (put_any (c : Int) (by omega) (by omega) 4 _).mono ?_
  rintro e w5 ⟨rfl, hb⟩
  go_wp2_with fail
  go_ret
  exact ⟨ret_strs (by rw [HS.out]), (below_drewN' (Below.refl w.heap.size w) (n2 + n3)).trans hb⟩
theorem frame_nil (v : Value) (k l s p n : Int) (d : ByteArray) (w : World) :
    Calls Tryz.prog 95 #[.pointer none, .agg #[.int .u8 k, .int .i64 l, .int .u64 s, .int .i64 p, .int .i64 n], .string d] w fun e w' => e = .returned (.tuple #[.string ⟨#[]⟩, .int .i64 1]) ∧ Below w.heap.size w w' := by
  go_enter Tryz.func95, Tryz.ntmps95
  go_wp2
  go_ret2
  exact ⟨rfl, (Below.refl _ _).alloc (Nat.le_refl _) _⟩
theorem frame_arg (b o : Nat) (k l s p n : Int) (h : ¬ TagOk k l p n) (d : ByteArray) (w : World) :
    Calls Tryz.prog 95 #[.pointer (some ⟨b, o, none⟩), .agg #[.int .u8 k, .int .i64 l, .int .u64 s, .int .i64 p, .int .i64 n], .string d] w fun e w' => e = .returned (.tuple #[.string ⟨#[]⟩, .int .i64 2]) ∧ Below w.heap.size w w' := by
  have HR := hide (fun W => tright_no k l s p n h W)
  clear h
  go_enter Tryz.func95, Tryz.ntmps95
  go_wp2_with fail
  refine (HR.out _).mono ?_
  rintro e w1 ⟨rfl, hb⟩
  go_wp2_with fail
  go_ret2
  exact ⟨rfl, below_trans ((Below.refl _ _).alloc (Nat.le_refl _) _) hb⟩
set_option maxRecDepth 100000 in
theorem frame_ok (b o : Nat) (k l s p n : Int) (h : TagOk k l p n) (s0 : 0 ≤ s) (s1 : s ≤ 18446744073709551615) (d : List UInt8) (hd : d.length ≤ 9223372036854775807) (w : World) (ht : TabAt w b o) :
    Calls Tryz.prog 95 #[.pointer (some ⟨b, o, none⟩), .agg #[.int .u8 k, .int .i64 l, .int .u64 s, .int .i64 p, .int .i64 n], .string (bs d)] w fun e w' => e = .returned (.tuple #[.string (bs (frameL k l s p n d)), .int .i64 0]) ∧ Below w.heap.size w w' := by
  have HR := hide (fun W => tright_yes k l s p n h W)
  have HH := hide (fun W => head_any k l s p n h s0 s1 W)
  have hl := headZ_length k l s p n
  have HF := hide (show bs (frameL k l s p n d) = bs (headZ k l s p n) ++ bs (sumL d (headZ k l s p n)) by rw [bs_append]; rfl)
  have hss : (bs (sumL d (headZ k l s p n))).size = 4 := sumL_length _ _
  generalize headZ k l s p n = hz at *
  generalize frameL k l s p n d = fz at *
  have HT := hide (tabAt_kept ht ((Below.refl w.heap.size w).alloc (Nat.le_refl _) (.cells #[.int .u8 k, .int .i64 l, .int .u64 s, .int .i64 p, .int .i64 n] 47)))
  have hbs := bs_size hz
  rw [hl] at hbs
  clear h ht
  go_enter Tryz.func95, Tryz.ntmps95
  go_wp2_with fail
  refine (HR.out _).mono ?_
  rintro e w1 ⟨rfl, hb1⟩
  have HT1 := hide (tabAt_kept HT.out hb1)
  have HB1 := hide (below_trans ((Below.refl w.heap.size w).alloc (Nat.le_refl _) (.cells #[.int .u8 k, .int .i64 l, .int .u64 s, .int .i64 p, .int .i64 n] 47)) hb1)
  have c0 : w1.heap[w.heap.size]? = some (.cells #[.int .u8 k, .int .i64 l, .int .u64 s, .int .i64 p, .int .i64 n] 47 (0, 0)) := (hb1.block _ (by simp)).trans (heap_new _ _)
  have d0 := cell_of_block c0 0
  have d1 := cell_of_block c0 1
  have d2 := cell_of_block c0 2
  have d3 := cell_of_block c0 3
  have d4 := cell_of_block c0 4
  simp only [List.getElem?_toArray, List.getElem?_cons_zero, List.getElem?_cons_succ] at d0 d1 d2 d3 d4
  have hlt := heap_lt c0
  clear hb1 c0 HT
  go_wp2_with fail
  refine (HH.out _).mono ?_
  rintro e w2 ⟨rfl, hb2⟩
  have HT2 := hide (tabAt_kept HT1.out hb2)
  have HB2 := hide (below_trans HB1.out hb2)
  clear hb2 HT1 HB1 d0 d1 d2 d3 d4 hlt
  go_wp2_with fail
  refine (sum_any6 b o d hz hd (by omega) _ HT2.out).mono ?_
  rintro e w3 ⟨rfl, hb3⟩
  have HB3 := hide (below_trans HB2.out hb3)
  clear hb3
  go_wp2_with fail
  go_ret2
  exact ⟨ret_str2 HF.out.symm, HB3.out⟩
end Go.Proofs.YtjfmkfhjbdiojaaGreat

namespace Go.Proofs.YtjfmkfhjbdiojaaGreat
set_option linter.unusedSimpArgs false
set_option linter.unusedVariables false
open Go.RowKit Go.WideShapes Go.ChangeShapes Go.ChangeAt

theorem bs_extract (l : List UInt8) (a b : Nat) : (bs l).extract a b = bs ((l.drop a).take (b - a)) := by
  apply ByteArray.ext
  simp [bs, List.extract_eq_take_drop]
theorem bs_to (l : List UInt8) (b : Nat) : (bs l).extract 0 b = bs (l.take b) := by rw [bs_extract]; simp
theorem bs_from (l : List UInt8) (a n : Nat) (h : n = l.length) : (bs l).extract a n = bs (l.drop a) := by rw [bs_extract, List.take_of_length_le (by simp; omega)]
theorem rdNum_bs (l : List UInt8) (wd : Nat) (h1 : 1 ≤ wd) (h8 : wd ≤ 8) (h : wd ≤ l.length) : rdNum (bs l) false (wd : Int) = (bs (l.take wd), bs (l.drop wd), false) := by
  have e : decide (1 ≤ (wd : Int) ∧ (wd : Int) ≤ 8) = true := decide_eq_true (by omega)
  unfold rdNum rdTake
  rw [if_neg (by simp), e, if_neg (by rw [bs_size]; simp; omega), Int.toNat_natCast, bs_to, bs_from _ _ _ (bs_size l)]
theorem number_fld (r : Nat) (l : List UInt8) (hl : l.length ≤ 1000) (wd : Nat) (h1 : 1 ≤ wd) (h8 : wd ≤ 8) (h : wd ≤ l.length) (w : World) (hr : RdAt w r (bs l) false) :
    Calls Tryz.prog 100 #[.pointer (some ⟨r, 0, none⟩), .int .i64 (wd : Int)] w fun e w' => e = .returned (.int .u64 (getN (l.take wd) : Int)) ∧ RdAt w' r (bs (l.drop wd)) false ∧ Only r w w' := by
  have := number_any r (bs l) (by rw [bs_size]; omega) false (wd : Int) w hr
  rw [rdNum_bs l wd h1 h8 h] at this
  simp only [bs_toList] at this
  rwa [last8_short (by rw [List.length_take]; omega)] at this
theorem RdAt.setOther {w : World} {r B j : Nat} {s : ByteArray} {bad : Bool} {v : Value} (h : RdAt w r s bad) (hne : B ≠ r) : RdAt (w.setCell ⟨B, j, none⟩ v) r s bad := ⟨by rw [block_setCell_other hne]; exact h.row⟩
theorem RdAt.alloc {w : World} {r : Nat} {s : ByteArray} {bad : Bool} (h : RdAt w r s bad) (o : Obj) : RdAt (w.alloc o) r s bad := h.below ((Below.refl _ _).alloc (Nat.le_refl _) _)
def tagC (a b c d e : Int) : Array Value := #[.int .u8 a, .int .i64 b, .int .u64 c, .int .i64 d, .int .i64 e]
theorem tagC_cells {w : World} {B : Nat} {a b c d e : Int} {t : TypeId} (h : w.heap[B]? = some (.cells (tagC a b c d e) t (0, 0))) :
    (w.cell? ⟨B, 0, none⟩ = some (.int .u8 a) ∧ w.cell? ⟨B, 1, none⟩ = some (.int .i64 b) ∧ w.cell? ⟨B, 2, none⟩ = some (.int .u64 c) ∧ w.cell? ⟨B, 3, none⟩ = some (.int .i64 d) ∧ w.cell? ⟨B, 4, none⟩ = some (.int .i64 e)) ∧
    (∀ j, w.frozen? ⟨B, j, none⟩ = false) ∧ B < w.heap.size :=
  ⟨⟨by rw [cell_of_block h]; rfl, by rw [cell_of_block h]; rfl, by rw [cell_of_block h]; rfl, by rw [cell_of_block h]; rfl, by rw [cell_of_block h]; rfl⟩, fun j => frozen_of_block h j, heap_lt h⟩
theorem five_set {W : World} {A : Nat} {a b c d e x0 x1 x2 x3 x4 : Int} {t : TypeId} (h : W.heap[A]? = some (.cells (tagC a b c d e) t (0, 0))) :
    (((((W.setCell ⟨A, 0, none⟩ (.int .u8 x0)).setCell ⟨A, 1, none⟩ (.int .i64 x1)).setCell ⟨A, 2, none⟩ (.int .u64 x2)).setCell ⟨A, 3, none⟩ (.int .i64 x3)).setCell ⟨A, 4, none⟩ (.int .i64 x4)).heap[A]? = some (.cells (tagC x0 x1 x2 x3 x4) t (0, 0)) :=
  block_setCell (block_setCell (block_setCell (block_setCell (block_setCell h _ _) _ _) _ _) _ _) _ _
theorem tag_size (a b c d e : Int) : (Tryz.prog.info? 47).map (·.size) = some (tagC a b c d e).size := by
  show _ = some 5
  kernel_rfl
theorem res_tag {fn : Func} {p : Tmp} (h : fn.results = #[.cell p 47]) (tmps : Array Value) (w : World) (A : Nat) (a b c d e : Int)
    (hp : tmps.getD p undef = .pointer (some ⟨A, 0, none⟩)) (hg : w.heap[A]? = some (.cells (tagC a b c d e) 47 (0, 0))) : (results fn tmps).run Tryz.prog w = .ok (.agg (tagC a b c d e)) w :=
  results_cell_row h tmps w A _ _ _ _ hp hg Tryz.underlying47 rfl (tag_size a b c d e)
theorem res_tag2 {fn : Func} {p u : Tmp} (h : fn.results = #[.cell p 47, .tmp u]) (tmps : Array Value) (w : World) (A : Nat) (a b c d e : Int) (v : Value)
    (hp : tmps.getD p undef = .pointer (some ⟨A, 0, none⟩)) (hu : tmps.getD u undef = v) (hg : w.heap[A]? = some (.cells (tagC a b c d e) 47 (0, 0))) : (results fn tmps).run Tryz.prog w = .ok (.tuple #[.agg (tagC a b c d e), v]) w := by
  rw [results_cell_tmp h, hp, hu]
  simp [asAddr, Result.andThen, run_loadVar_row w A 47 47 _ _ _ hg Tryz.underlying47 rfl (tag_size a b c d e)]
theorem fld_next (l : List UInt8) (a b : Nat) : (l.drop a).drop b = l.drop (a + b) := by rw [List.drop_drop]
theorem read_new (s : ByteArray) (w : World) : Calls Tryz.prog 99 #[.string s] w fun e w' => ∃ r, e = .returned (.pointer (some ⟨r, 0, none⟩)) ∧ RdAt w' r s false ∧ w.heap.size ≤ r ∧ Below w.heap.size w w' :=
  (read_any s w).mono fun _ _ ⟨h1, h2, h3⟩ => ⟨_, h1, h2, Nat.le_refl _, h3⟩
/-- while fields are read: the reader, the result's cells, the tag's -/
structure PH (w0 W : World) (A B r : Nat) (l : List UInt8) (T : Array Value) : Prop where
  rd : RdAt W r (bs l) false
  res : W.heap[A]? = some (.cells (tagC 0 0 0 0 0) 47 (0, 0))
  tag : W.heap[B]? = some (.cells T 47 (0, 0))
  ra : A ≠ r
  rb : B ≠ r
  ab : A ≠ B
  wa : w0.heap.size ≤ A
  wb : w0.heap.size ≤ B
  wr : w0.heap.size ≤ r
  below : Below w0.heap.size w0 W
theorem PH.read {w0 W W' : World} {A B r : Nat} {l l' : List UInt8} {T : Array Value} (h : PH w0 W A B r l T) (hr : RdAt W' r (bs l') false) (ho : Only r W W') : PH w0 W' A B r l' T :=
  ⟨hr, (ho.block _ (heap_lt h.res) h.ra).trans h.res, (ho.block _ (heap_lt h.tag) h.rb).trans h.tag, h.ra, h.rb, h.ab, h.wa, h.wb, h.wr, ho.below h.below h.wr h.below.size⟩
theorem PH.store {w0 W : World} {A B r : Nat} {l : List UInt8} {T : Array Value} (h : PH w0 W A B r l T) (j : Nat) (v : Value) : PH w0 (W.setCell ⟨B, j, none⟩ v) A B r l (T.setIfInBounds j v) :=
  ⟨h.rd.setOther h.rb, by rw [block_setCell_other (Ne.symm h.ab)]; exact h.res, block_setCell h.tag j v, h.ra, h.rb, h.ab, h.wa, h.wb, h.wr, h.below.setCell h.wb _⟩
set_option maxRecDepth 100000 in
set_option maxHeartbeats 400000 in
theorem parseHead_any (l : List UInt8) (hl : l.length = 28) (w : World) :
    Calls Tryz.prog 71 #[.string (bs l)] w fun e w' => e = .returned (.agg (tagC (fld l 1 1) (fld l 2 2) (fld l 4 8) (fld l 12 1) (fld l 13 1))) ∧ Below w.heap.size w w' := by
  have hbs := bs_size l
  rw [hl] at hbs
  have b1 := fld_lt l 1 1
  have b2 := fld_lt l 2 2
  have b3 := fld_lt l 4 8
  have b4 := fld_lt l 12 1
  have b5 := fld_lt l 13 1
  have HN1 := hide (fun r W h => number_fld r (l.drop 1) (by simp; omega) 1 (by omega) (by omega) (by simp; omega) W h)
  have HN2 := hide (fun r W h => number_fld r (l.drop 2) (by simp; omega) 2 (by omega) (by omega) (by simp; omega) W h)
  have HN3 := hide (fun r W h => number_fld r (l.drop 4) (by simp; omega) 8 (by omega) (by omega) (by simp; omega) W h)
  have HN4 := hide (fun r W h => number_fld r (l.drop 12) (by simp; omega) 1 (by omega) (by omega) (by simp; omega) W h)
  have HN5 := hide (fun r W h => number_fld r (l.drop 13) (by simp; omega) 1 (by omega) (by omega) (by simp; omega) W h)
  simp only [fld_next, Nat.reduceAdd] at HN1 HN2 HN3 HN4 HN5
  have e1 : bs (l.drop 1) = (bs l).extract 1 28 := (bs_from l 1 28 hl.symm).symm
  change Hid (∀ r W, RdAt W r (bs (l.drop 1)) false → Calls Tryz.prog 100 #[.pointer (some ⟨r, 0, none⟩), .int .i64 1] W fun e w' => e = .returned (.int .u64 (fld l 1 1 : Int)) ∧ RdAt w' r (bs (l.drop 2)) false ∧ Only r W w') at HN1
  change Hid (∀ r W, RdAt W r (bs (l.drop 2)) false → Calls Tryz.prog 100 #[.pointer (some ⟨r, 0, none⟩), .int .i64 2] W fun e w' => e = .returned (.int .u64 (fld l 2 2 : Int)) ∧ RdAt w' r (bs (l.drop 4)) false ∧ Only r W w') at HN2
  change Hid (∀ r W, RdAt W r (bs (l.drop 4)) false → Calls Tryz.prog 100 #[.pointer (some ⟨r, 0, none⟩), .int .i64 8] W fun e w' => e = .returned (.int .u64 (fld l 4 8 : Int)) ∧ RdAt w' r (bs (l.drop 12)) false ∧ Only r W w') at HN3
  change Hid (∀ r W, RdAt W r (bs (l.drop 12)) false → Calls Tryz.prog 100 #[.pointer (some ⟨r, 0, none⟩), .int .i64 1] W fun e w' => e = .returned (.int .u64 (fld l 12 1 : Int)) ∧ RdAt w' r (bs (l.drop 13)) false ∧ Only r W w') at HN4
  change Hid (∀ r W, RdAt W r (bs (l.drop 13)) false → Calls Tryz.prog 100 #[.pointer (some ⟨r, 0, none⟩), .int .i64 1] W fun e w' => e = .returned (.int .u64 (fld l 13 1 : Int)) ∧ RdAt w' r (bs (l.drop 14)) false ∧ Only r W w') at HN5
  generalize fld l 1 1 = f1 at *
  generalize fld l 2 2 = f2 at *
  generalize fld l 4 8 = f3 at *
  generalize fld l 12 1 = f4 at *
  generalize fld l 13 1 = f5 at *
  simp only [Nat.reducePow] at b1 b2 b3 b4 b5
  go_enter Tryz.func71, Tryz.ntmps71
  go_wp2_with fail
  rw [← e1]
  refine (read_new _ _).mono ?_
  rintro e w1 ⟨r, rfl, hr, hr0, hb⟩
  have HP0 := hide (show PH w (w1.alloc (.cells (tagC 0 0 0 0 0) 47)) w.heap.size w1.heap.size r (l.drop 1) (tagC 0 0 0 0 0) from
    ⟨hr.alloc _, (heap_old w1 _ _ (by have := hb.size; simp at this; omega)).trans ((hb.block _ (by simp)).trans (heap_new _ _)), heap_new _ _, by simp at hr0; omega, by have := heap_lt hr.row; omega, by have := hb.size; simp at this; omega, Nat.le_refl _, by have := hb.size; simp at this; omega, by simp at hr0; omega,
      (below_trans ((Below.refl _ _).alloc (Nat.le_refl _) _) hb).alloc (by have := hb.size; simp at this; omega) _⟩)
  clear hr hr0 hb e1
  go_wp2_with fail
  refine (HN1.out _ _ HP0.out.rd).mono ?_
  rintro e v1 ⟨rfl, hr, ho⟩
  have HP1 := hide (HP0.out.read hr ho)
  generalize w1.heap.size = B at *
  obtain ⟨⟨d0, d1, d2, d3, d4⟩, dz, dl⟩ := tagC_cells HP1.out.tag
  have HS1 := hide (show PH w (v1.setCell ⟨B, 0, none⟩ (.int .u8 (f1 : Int))) w.heap.size B r (l.drop 2) (tagC (f1 : Int) 0 0 0 0) from HP1.out.store 0 (.int .u8 (f1 : Int)))
  clear hr ho HP0 HN1 HP1
  go_wp2_with fail
  clear d0 d1 d2 d3 d4 dz dl
  refine (HN2.out _ _ HS1.out.rd).mono ?_
  rintro e v2 ⟨rfl, hr, ho⟩
  have HP2 := hide (HS1.out.read hr ho)
  obtain ⟨⟨d0, d1, d2, d3, d4⟩, dz, dl⟩ := tagC_cells HP2.out.tag
  have HS2 := hide (show PH w (v2.setCell ⟨B, 1, none⟩ (.int .i64 (f2 : Int))) w.heap.size B r (l.drop 4) (tagC (f1 : Int) (f2 : Int) 0 0 0) from HP2.out.store 1 (.int .i64 (f2 : Int)))
  clear hr ho HS1 HN2 HP2
  go_wp2_with fail
  clear d0 d1 d2 d3 d4 dz dl
  refine (HN3.out _ _ HS2.out.rd).mono ?_
  rintro e v3 ⟨rfl, hr, ho⟩
  have HP3 := hide (HS2.out.read hr ho)
  obtain ⟨⟨d0, d1, d2, d3, d4⟩, dz, dl⟩ := tagC_cells HP3.out.tag
  have HS3 := hide (show PH w (v3.setCell ⟨B, 2, none⟩ (.int .u64 (f3 : Int))) w.heap.size B r (l.drop 12) (tagC (f1 : Int) (f2 : Int) (f3 : Int) 0 0) from HP3.out.store 2 (.int .u64 (f3 : Int)))
  clear hr ho HS2 HN3 HP3
  go_wp2_with fail
  clear d0 d1 d2 d3 d4 dz dl
  refine (HN4.out _ _ HS3.out.rd).mono ?_
  rintro e v4 ⟨rfl, hr, ho⟩
  have HP4 := hide (HS3.out.read hr ho)
  obtain ⟨⟨d0, d1, d2, d3, d4⟩, dz, dl⟩ := tagC_cells HP4.out.tag
  have HS4 := hide (show PH w (v4.setCell ⟨B, 3, none⟩ (.int .i64 (f4 : Int))) w.heap.size B r (l.drop 13) (tagC (f1 : Int) (f2 : Int) (f3 : Int) (f4 : Int) 0) from HP4.out.store 3 (.int .i64 (f4 : Int)))
  clear hr ho HS3 HN4 HP4
  go_wp2_with fail
  clear d0 d1 d2 d3 d4 dz dl
  refine (HN5.out _ _ HS4.out.rd).mono ?_
  rintro e v5 ⟨rfl, hr, ho⟩
  have HP5 := hide (HS4.out.read hr ho)
  obtain ⟨⟨d0, d1, d2, d3, d4⟩, dz, dl⟩ := tagC_cells HP5.out.tag
  have HS5 := hide (show PH w (v5.setCell ⟨B, 4, none⟩ (.int .i64 (f5 : Int))) w.heap.size B r (l.drop 14) (tagC (f1 : Int) (f2 : Int) (f3 : Int) (f4 : Int) (f5 : Int)) from HP5.out.store 4 (.int .i64 (f5 : Int)))
  obtain ⟨⟨g0, g1, g2, g3, g4⟩, gz, gl⟩ := tagC_cells HP5.out.res
  have hab := HP5.out.ab
  clear hr ho HS4 HN5 HP5
  go_wp2_with fail
  exact bodyPost_ret (res_tag Tryz.results71 _ _ w.heap.size f1 f2 f3 f4 f5 rfl (five_set HS5.out.res)) rfl ⟨rfl, ((((HS5.out.below.setCell (Nat.le_refl _) _).setCell (Nat.le_refl _) _).setCell (Nat.le_refl _) _).setCell (Nat.le_refl _) _).setCell (Nat.le_refl _) _⟩
end Go.Proofs.YtjfmkfhjbdiojaaGreat

namespace Go.Proofs.YtjfmkfhjbdiojaaGreat
set_option linter.unusedSimpArgs false
set_option linter.unusedVariables false
open Go.RowKit Go.WideShapes Go.ChangeShapes Go.ChangeAt

theorem parse_nil (d b : ByteArray) (w : World) :
    Calls Tryz.prog 35 #[.pointer none, .string d, .string b] w fun e w' => e = .returned (.tuple #[.agg (tagC 0 0 0 0 0), .int .i64 1]) ∧ Below w.heap.size w w' := by
  go_enter Tryz.func35, Tryz.ntmps35
  go_wp2_with fail
  exact bodyPost_ret (res_tag2 Tryz.results35 _ _ w.heap.size 0 0 0 0 0 _ rfl rfl (heap_new _ _)) rfl ⟨rfl, (Below.refl _ _).alloc (Nat.le_refl _) _⟩
set_option maxRecDepth 100000 in
set_option maxHeartbeats 400000 in
theorem parse_len (b o : Nat) (d : ByteArray) (l : List UInt8) (hl : l.length ≠ 32) (hm : l.length ≤ 9223372036854775807) (w : World) :
    Calls Tryz.prog 35 #[.pointer (some ⟨b, o, none⟩), .string d, .string (bs l)] w fun e w' => e = .returned (.tuple #[.agg (tagC 0 0 0 0 0), .int .i64 4]) ∧ Below w.heap.size w w' := by
  have hs := bs_size l
  have hx : (((bs l).size : Int) == 32) = false := by rw [hs, beq_eq_false_iff_ne]; omega
  go_enter Tryz.func35, Tryz.ntmps35
  go_wp2_with fail
  exact bodyPost_ret (res_tag2 Tryz.results35 _ _ w.heap.size 0 0 0 0 0 _ rfl rfl (heap_new _ _)) rfl ⟨rfl, (Below.refl _ _).alloc (Nat.le_refl _) _⟩
theorem heap_alloc_sz (w : World) (o : Obj) : (w.alloc o).heap.size = w.heap.size + 1 := by show (w.heap.push o).size = _; simp
theorem bs_ne {a b : List UInt8} (h : a ≠ b) : ((bs a).toList == (bs b).toList) = false ∧ ¬ bs a = bs b := ⟨by rw [ByteArray.toList_eq, ByteArray.toList_eq, bs_toList, bs_toList, beq_eq_false_iff_ne]; exact h, fun e => h (bs_inj e)⟩
theorem bs_eq {a b : List UInt8} (h : a = b) : ((bs a).toList == (bs b).toList) = true := by rw [h]; simp
/-- after the fields are read: the result's cells, the tag's, what is below -/
structure PX (w0 W : World) (A B : Nat) (T : Array Value) : Prop where
  res : W.heap[A]? = some (.cells (tagC 0 0 0 0 0) 47 (0, 0))
  tag : W.heap[B]? = some (.cells T 47 (0, 0))
  ab : A ≠ B
  wa : w0.heap.size ≤ A
  wb : w0.heap.size ≤ B
  below : Below w0.heap.size w0 W
theorem PX.kept {w0 W W' : World} {A B : Nat} {T : Array Value} (h : PX w0 W A B T) (hb : Below W.heap.size W W') : PX w0 W' A B T :=
  ⟨(hb.block _ (heap_lt h.res)).trans h.res, (hb.block _ (heap_lt h.tag)).trans h.tag, h.ab, h.wa, h.wb, below_trans h.below hb⟩
theorem PX.drew {w0 W : World} {A B : Nat} {T : Array Value} (h : PX w0 W A B T) : PX w0 W.drew A B T := ⟨h.res, h.tag, h.ab, h.wa, h.wb, h.below.drew⟩
theorem PX.new {w0 w1 : World} {T : Array Value} (hb : Below (w0.alloc (.cells (tagC 0 0 0 0 0) 47)).heap.size (w0.alloc (.cells (tagC 0 0 0 0 0) 47)) w1) : PX w0 (w1.alloc (.cells T 47)) w0.heap.size w1.heap.size T := by
  have hs := hb.size
  rw [heap_alloc_sz] at hs
  have h1 : w1.heap[w0.heap.size]? = some (.cells (tagC 0 0 0 0 0) 47 (0, 0)) := (hb.block _ (by rw [heap_alloc_sz]; omega)).trans (heap_new _ _)
  refine ⟨(heap_old w1 _ _ (by omega)).trans h1, heap_new _ _, by omega, Nat.le_refl _, by omega, ?_⟩
  exact (below_trans ((Below.refl _ _).alloc (Nat.le_refl _) _) hb).alloc (by omega) _
set_option maxRecDepth 100000 in
set_option maxHeartbeats 400000 in
theorem parse_right (b o : Nat) (d l : List UInt8) (hl : l.length = 32) (h : ¬ TagOk (fld (l.take 28) 1 1) (fld (l.take 28) 2 2) (fld (l.take 28) 12 1) (fld (l.take 28) 13 1)) (w : World) :
    Calls Tryz.prog 35 #[.pointer (some ⟨b, o, none⟩), .string (bs d), .string (bs l)] w fun e w' => e = .returned (.tuple #[.agg (tagC 0 0 0 0 0), .int .i64 4]) ∧ Below w.heap.size w w' := by
  have hs := bs_size l
  rw [hl] at hs
  have h28 : (l.take 28).length = 28 := by rw [List.length_take]; omega
  have hs28 := bs_size (l.take 28)
  rw [h28] at hs28
  have e1 : bs (l.take 28) = (bs l).extract 0 28 := (bs_to l 28).symm
  have HP := hide (fun W => parseHead_any (l.take 28) h28 W)
  have HR := hide (fun s W => tright_no _ _ s _ _ h W)
  have b1 := fld_lt (l.take 28) 1 1
  have b2 := fld_lt (l.take 28) 2 2
  have b3 := fld_lt (l.take 28) 4 8
  have b4 := fld_lt (l.take 28) 12 1
  have b5 := fld_lt (l.take 28) 13 1
  generalize fld (l.take 28) 1 1 = f1 at *
  generalize fld (l.take 28) 2 2 = f2 at *
  generalize fld (l.take 28) 4 8 = f3 at *
  generalize fld (l.take 28) 12 1 = f4 at *
  generalize fld (l.take 28) 13 1 = f5 at *
  simp only [Nat.reducePow] at b1 b2 b3 b4 b5
  go_enter Tryz.func35, Tryz.ntmps35
  go_wp2_with fail
  rw [← e1]
  refine (HP.out _).mono ?_
  rintro e w1 ⟨rfl, hb⟩
  have HX := hide (PX.new (T := tagC f1 f2 f3 f4 f5) hb)
  clear hb HP e1
  simp only [tagC]
  go_wp2_with fail
  refine (HR.out _ _).mono ?_
  rintro e w2 ⟨rfl, hb⟩
  have HX2 := hide (HX.out.kept hb)
  clear hb HX HR
  generalize w1.heap.size = B at *
  obtain ⟨⟨g0, g1, g2, g3, g4⟩, gz, gl⟩ := tagC_cells HX2.out.res
  go_wp2_with fail
  exact bodyPost_ret (res_tag2 Tryz.results35 _ _ w.heap.size 0 0 0 0 0 _ rfl rfl (five_set HX2.out.res)) rfl ⟨rfl, ((((HX2.out.below.setCell (Nat.le_refl _) _).setCell (Nat.le_refl _) _).setCell (Nat.le_refl _) _).setCell (Nat.le_refl _) _).setCell (Nat.le_refl _) _⟩
set_option maxRecDepth 100000 in
set_option maxHeartbeats 400000 in
theorem parse_head (b o : Nat) (d l : List UInt8) (hl : l.length = 32) (h : TagOk (fld (l.take 28) 1 1) (fld (l.take 28) 2 2) (fld (l.take 28) 12 1) (fld (l.take 28) 13 1)) (hh : headZ (fld (l.take 28) 1 1) (fld (l.take 28) 2 2) (fld (l.take 28) 4 8) (fld (l.take 28) 12 1) (fld (l.take 28) 13 1) ≠ l.take 28) (w : World) :
    Calls Tryz.prog 35 #[.pointer (some ⟨b, o, none⟩), .string (bs d), .string (bs l)] w fun e w' => e = .returned (.tuple #[.agg (tagC 0 0 0 0 0), .int .i64 4]) ∧ Below w.heap.size w w' := by
  have hs := bs_size l
  rw [hl] at hs
  have h28 : (l.take 28).length = 28 := by rw [List.length_take]; omega
  have hs28 := bs_size (l.take 28)
  rw [h28] at hs28
  have e1 : bs (l.take 28) = (bs l).extract 0 28 := (bs_to l 28).symm
  have HP := hide (fun W => parseHead_any (l.take 28) h28 W)
  have HR := hide (fun s W => tright_yes _ _ s _ _ h W)
  have HH := hide (fun W => head_any _ _ (fld (l.take 28) 4 8 : Int) _ _ h (by omega) (by have := fld_lt (l.take 28) 4 8; simp only [Nat.reducePow] at this; omega) W)
  obtain ⟨hne, hne2⟩ := bs_ne hh
  generalize headZ (fld (l.take 28) 1 1) (fld (l.take 28) 2 2) (fld (l.take 28) 4 8) (fld (l.take 28) 12 1) (fld (l.take 28) 13 1) = hz at *
  have b1 := fld_lt (l.take 28) 1 1
  have b2 := fld_lt (l.take 28) 2 2
  have b3 := fld_lt (l.take 28) 4 8
  have b4 := fld_lt (l.take 28) 12 1
  have b5 := fld_lt (l.take 28) 13 1
  generalize fld (l.take 28) 1 1 = f1 at *
  generalize fld (l.take 28) 2 2 = f2 at *
  generalize fld (l.take 28) 4 8 = f3 at *
  generalize fld (l.take 28) 12 1 = f4 at *
  generalize fld (l.take 28) 13 1 = f5 at *
  simp only [Nat.reducePow] at b1 b2 b3 b4 b5
  go_enter Tryz.func35, Tryz.ntmps35
  go_wp2_with fail
  rw [← e1]
  refine (HP.out _).mono ?_
  rintro e w1 ⟨rfl, hb⟩
  have HX := hide (PX.new (T := tagC f1 f2 f3 f4 f5) hb)
  clear hb HP e1
  simp only [tagC]
  go_wp2_with fail
  refine (HR.out _ _).mono ?_
  rintro e w2 ⟨rfl, hb⟩
  have HX2 := hide (HX.out.kept hb)
  clear hb HX HR
  generalize w1.heap.size = B at *
  obtain ⟨⟨d0, d1, d2, d3, d4⟩, dz, dl⟩ := tagC_cells HX2.out.tag
  go_wp2_with fail
  refine (HH.out _).mono ?_
  rintro e w3 ⟨rfl, hb⟩
  have HX3 := hide (HX2.out.kept hb)
  clear hb HX2 HH d0 d1 d2 d3 d4 dz dl
  obtain ⟨⟨g0, g1, g2, g3, g4⟩, gz, gl⟩ := tagC_cells HX3.out.res
  go_wp2_with fail
  exact bodyPost_ret (res_tag2 Tryz.results35 _ _ w.heap.size 0 0 0 0 0 _ rfl rfl (five_set HX3.out.res)) rfl ⟨rfl, ((((HX3.out.below.setCell (Nat.le_refl _) _).setCell (Nat.le_refl _) _).setCell (Nat.le_refl _) _).setCell (Nat.le_refl _) _).setCell (Nat.le_refl _) _⟩
set_option maxRecDepth 100000 in
set_option maxHeartbeats 400000 in
theorem parse_sum (b o : Nat) (d l : List UInt8) (hl : l.length = 32) (h : TagOk (fld (l.take 28) 1 1) (fld (l.take 28) 2 2) (fld (l.take 28) 12 1) (fld (l.take 28) 13 1)) (hh : headZ (fld (l.take 28) 1 1) (fld (l.take 28) 2 2) (fld (l.take 28) 4 8) (fld (l.take 28) 12 1) (fld (l.take 28) 13 1) = l.take 28) (hd : d.length ≤ 9223372036854775807) (hsum : sumL d (l.take 28) ≠ l.drop 28) (w : World) (ht : TabAt w b o) :
    Calls Tryz.prog 35 #[.pointer (some ⟨b, o, none⟩), .string (bs d), .string (bs l)] w fun e w' => e = .returned (.tuple #[.agg (tagC 0 0 0 0 0), .int .i64 5]) ∧ Below w.heap.size w w' := by
  have hs := bs_size l
  rw [hl] at hs
  have h28 : (l.take 28).length = 28 := by rw [List.length_take]; omega
  have hs28 := bs_size (l.take 28)
  rw [h28] at hs28
  have e1 : bs (l.take 28) = (bs l).extract 0 28 := (bs_to l 28).symm
  have HP := hide (fun W => parseHead_any (l.take 28) h28 W)
  have HR := hide (fun s W => tright_yes _ _ s _ _ h W)
  have HH := hide (fun W => head_any _ _ (fld (l.take 28) 4 8 : Int) _ _ h (by omega) (by have := fld_lt (l.take 28) 4 8; simp only [Nat.reducePow] at this; omega) W)
  have HT := hide ht
  clear ht
  have HSUM := hide (fun W h => sum_any6 b o d (l.take 28) hd (by omega) W h)
  have e2 := bs_from l 28 32 hl.symm
  have hz2 : bs (headZ (fld (l.take 28) 1 1) (fld (l.take 28) 2 2) (fld (l.take 28) 4 8) (fld (l.take 28) 12 1) (fld (l.take 28) 13 1)) = bs (l.take 28) := by rw [hh]
  obtain ⟨hne, hne2⟩ := bs_ne hsum
  rw [hz2] at HH
  generalize sumL d (l.take 28) = sm at *
  clear hh hz2
  have b1 := fld_lt (l.take 28) 1 1
  have b2 := fld_lt (l.take 28) 2 2
  have b3 := fld_lt (l.take 28) 4 8
  have b4 := fld_lt (l.take 28) 12 1
  have b5 := fld_lt (l.take 28) 13 1
  generalize fld (l.take 28) 1 1 = f1 at *
  generalize fld (l.take 28) 2 2 = f2 at *
  generalize fld (l.take 28) 4 8 = f3 at *
  generalize fld (l.take 28) 12 1 = f4 at *
  generalize fld (l.take 28) 13 1 = f5 at *
  simp only [Nat.reducePow] at b1 b2 b3 b4 b5
  go_enter Tryz.func35, Tryz.ntmps35
  go_wp2_with fail
  rw [← e1]
  refine (HP.out _).mono ?_
  rintro e w1 ⟨rfl, hb⟩
  have HX := hide (PX.new (T := tagC f1 f2 f3 f4 f5) hb)
  clear hb HP e1
  simp only [tagC]
  go_wp2_with fail
  refine (HR.out _ _).mono ?_
  rintro e w2 ⟨rfl, hb⟩
  have HX2 := hide (HX.out.kept hb)
  clear hb HX HR
  generalize w1.heap.size = B at *
  obtain ⟨⟨d0, d1, d2, d3, d4⟩, dz, dl⟩ := tagC_cells HX2.out.tag
  go_wp2_with fail
  refine (HH.out _).mono ?_
  rintro e w3 ⟨rfl, hb⟩
  have HX3 := hide (HX2.out.kept hb)
  clear hb HX2 HH d0 d1 d2 d3 d4 dz dl
  have HT3 := hide (tabAt_below HT.out HX3.out.below (tabAt_lt HT.out))
  clear HT
  go_upto_region 9 with (fail)
  refine wp_region_held_drew (S := (fun _ => True)) (by kernel_rfl) (trivial) (fun hHeld => ?_)
  refine wpAnyH_take (i := 0) (oi := { dst := some 31, op := Op.move (Operand.tmp 0), type := 103, pos := "tag.go:87", after := #[], guard := none }) (v := ?_) rfl (by kernel_rfl) (by kernel_rfl) (by kernel_rfl) (fun _ _ _ h => h) (Or.inl ⟨by kernel_rfl, ?_⟩) hHeld ?_
  rotate_left
  · (intro w hSw; (try dsimp only at hSw); go_simp); try with_reducible rfl
  try simp only [Act.put, List.setIfInBounds_toArray, List.set_cons_zero, List.set_cons_succ]
  refine wpAnyH_take (i := 1) (oi := { dst := some 32, op := Op.move (Operand.tmp 1), type := 9, pos := "tag.go:87", after := #[], guard := none }) (v := ?_) rfl (by kernel_rfl) (by kernel_rfl) (by kernel_rfl) (fun _ _ _ h => h) (Or.inl ⟨by kernel_rfl, ?_⟩) hHeld ?_
  rotate_left
  · (intro w hSw; (try dsimp only at hSw); go_simp); try with_reducible rfl
  try simp only [Act.put, List.setIfInBounds_toArray, List.set_cons_zero, List.set_cons_succ]
  refine wpAnyH_take (i := 2) (oi := { dst := some 33, op := Op.move (Operand.tmp 8), type := 9, pos := "tag.go:87", after := #[], guard := none }) (v := ?_) rfl (by kernel_rfl) (by kernel_rfl) (by kernel_rfl) (fun _ _ _ h => h) (Or.inl ⟨by kernel_rfl, ?_⟩) hHeld ?_
  rotate_left
  · (intro w hSw; (try dsimp only at hSw); go_simp); try with_reducible rfl
  try simp only [Act.put, List.setIfInBounds_toArray, List.set_cons_zero, List.set_cons_succ]
  refine wpAnyH_take (i := 4) (oi := { dst := some 35, op := Op.move (Operand.tmp 2), type := 9, pos := "tag.go:87", after := #[], guard := none }) (v := ?_) rfl (by kernel_rfl) (by kernel_rfl) (by kernel_rfl) (fun _ _ _ h => h) (Or.inl ⟨by kernel_rfl, ?_⟩) hHeld ?_
  rotate_left
  · (intro w hSw; (try dsimp only at hSw); go_simp); try with_reducible rfl
  try simp only [Act.put, List.setIfInBounds_toArray, List.set_cons_zero, List.set_cons_succ]
  refine wpAnyH_take (i := 5) (oi := { dst := some 36, op := Op.slice 9 (Operand.tmp 35) (some (Operand.const (Value.int IntKind.i64 28))) none none, type := 9, pos := "tag.go:87", after := #[{ on := 4, ground := Ground.data }], guard := none }) (v := ?_) rfl (by kernel_rfl) (by kernel_rfl) (by kernel_rfl) (fun _ _ _ h => h) (Or.inl ⟨by kernel_rfl, ?_⟩) hHeld ?_
  rotate_left
  · (intro w hSw; (try dsimp only at hSw); go_simp); try with_reducible rfl
  try simp only [Act.put, List.setIfInBounds_toArray, List.set_cons_zero, List.set_cons_succ]
  refine wpAnyH_ready (rs := [3]) (by kernel_rfl) (by simp) ?_
  refine AllReadyH.cons (o := { dst := some 34, op := Op.call { callee := Callee.value (Operand.func 73), args := #[Operand.tmp 31, Operand.tmp 32, Operand.tmp 33], argTypes := #[103, 9, 9] }, type := 9, pos := "tag.go:87", after := #[{ on := 0, ground := Ground.data }, { on := 1, ground := Ground.data }, { on := 2, ground := Ground.data }], guard := none }) rfl (fun K hK => ?_) AllReadyH.nil
  have hOld := hide hHeld
  clear hHeld
  go_simp
  refine (HSUM.out _ (tabAt_drew HT3.out)).mono ?_
  rintro e w4 ⟨rfl, hb⟩
  have HX4 := hide (HX3.out.drew.kept hb)
  clear hb
  (try go_wp2_with fail)
  refine hK.out _ _ (trivial) (fun hHeld => ?_)
  clear hK K hOld
  try simp only [Act.put, List.setIfInBounds_toArray, List.set_cons_zero, List.set_cons_succ]
  refine wpAnyH_take (i := 6) (oi := { dst := some 37, op := Op.binOp BinOp.neq 9 (Operand.tmp 34) (Operand.tmp 36) 9, type := 4, pos := "tag.go:87", after := #[{ on := 3, ground := Ground.data }, { on := 5, ground := Ground.data }], guard := none }) (v := ?_) rfl (by kernel_rfl) (by kernel_rfl) (by kernel_rfl) (fun _ _ _ h => h) (Or.inl ⟨by kernel_rfl, ?_⟩) hHeld ?_
  rotate_left
  · (intro w hSw; (try dsimp only at hSw); go_simp); try with_reducible rfl
  try simp only [Act.put, List.setIfInBounds_toArray, List.set_cons_zero, List.set_cons_succ]
  refine wpAnyH_done (by kernel_rfl) ?_ _
  clear hHeld HX3 HT3 HSUM
  obtain ⟨⟨g0, g1, g2, g3, g4⟩, gz, gl⟩ := tagC_cells HX4.out.res
  go_wp2_with fail
  exact bodyPost_ret (res_tag2 Tryz.results35 _ _ w.heap.size 0 0 0 0 0 _ rfl rfl (five_set HX4.out.res)) rfl ⟨rfl, ((((HX4.out.below.setCell (Nat.le_refl _) _).setCell (Nat.le_refl _) _).setCell (Nat.le_refl _) _).setCell (Nat.le_refl _) _).setCell (Nat.le_refl _) _⟩
set_option maxRecDepth 100000 in
set_option maxHeartbeats 400000 in
theorem parse_good (b o : Nat) (d l : List UInt8) (hl : l.length = 32) (h : TagOk (fld (l.take 28) 1 1) (fld (l.take 28) 2 2) (fld (l.take 28) 12 1) (fld (l.take 28) 13 1)) (hh : headZ (fld (l.take 28) 1 1) (fld (l.take 28) 2 2) (fld (l.take 28) 4 8) (fld (l.take 28) 12 1) (fld (l.take 28) 13 1) = l.take 28) (hd : d.length ≤ 9223372036854775807) (hsum : sumL d (l.take 28) = l.drop 28) (w : World) (ht : TabAt w b o) :
    Calls Tryz.prog 35 #[.pointer (some ⟨b, o, none⟩), .string (bs d), .string (bs l)] w fun e w' => e = .returned (.tuple #[.agg (tagC (fld (l.take 28) 1 1) (fld (l.take 28) 2 2) (fld (l.take 28) 4 8) (fld (l.take 28) 12 1) (fld (l.take 28) 13 1)), .int .i64 0]) ∧ Below w.heap.size w w' := by
  have hs := bs_size l
  rw [hl] at hs
  have h28 : (l.take 28).length = 28 := by rw [List.length_take]; omega
  have hs28 := bs_size (l.take 28)
  rw [h28] at hs28
  have e1 : bs (l.take 28) = (bs l).extract 0 28 := (bs_to l 28).symm
  have HP := hide (fun W => parseHead_any (l.take 28) h28 W)
  have HR := hide (fun s W => tright_yes _ _ s _ _ h W)
  have HH := hide (fun W => head_any _ _ (fld (l.take 28) 4 8 : Int) _ _ h (by omega) (by have := fld_lt (l.take 28) 4 8; simp only [Nat.reducePow] at this; omega) W)
  have HT := hide ht
  clear ht
  have HSUM := hide (fun W h => sum_any6 b o d (l.take 28) hd (by omega) W h)
  have e2 := bs_from l 28 32 hl.symm
  have hz2 : bs (headZ (fld (l.take 28) 1 1) (fld (l.take 28) 2 2) (fld (l.take 28) 4 8) (fld (l.take 28) 12 1) (fld (l.take 28) 13 1)) = bs (l.take 28) := by rw [hh]
  rw [hz2] at HH
  rw [hsum] at HSUM
  clear hh hz2 hsum
  have b1 := fld_lt (l.take 28) 1 1
  have b2 := fld_lt (l.take 28) 2 2
  have b3 := fld_lt (l.take 28) 4 8
  have b4 := fld_lt (l.take 28) 12 1
  have b5 := fld_lt (l.take 28) 13 1
  generalize fld (l.take 28) 1 1 = f1 at *
  generalize fld (l.take 28) 2 2 = f2 at *
  generalize fld (l.take 28) 4 8 = f3 at *
  generalize fld (l.take 28) 12 1 = f4 at *
  generalize fld (l.take 28) 13 1 = f5 at *
  simp only [Nat.reducePow] at b1 b2 b3 b4 b5
  go_enter Tryz.func35, Tryz.ntmps35
  go_wp2_with fail
  rw [← e1]
  refine (HP.out _).mono ?_
  rintro e w1 ⟨rfl, hb⟩
  have HX := hide (PX.new (T := tagC f1 f2 f3 f4 f5) hb)
  clear hb HP e1
  simp only [tagC]
  go_wp2_with fail
  refine (HR.out _ _).mono ?_
  rintro e w2 ⟨rfl, hb⟩
  have HX2 := hide (HX.out.kept hb)
  clear hb HX HR
  generalize w1.heap.size = B at *
  obtain ⟨⟨d0, d1, d2, d3, d4⟩, dz, dl⟩ := tagC_cells HX2.out.tag
  go_wp2_with fail
  refine (HH.out _).mono ?_
  rintro e w3 ⟨rfl, hb⟩
  have HX3 := hide (HX2.out.kept hb)
  clear hb HX2 HH d0 d1 d2 d3 d4 dz dl
  have HT3 := hide (tabAt_below HT.out HX3.out.below (tabAt_lt HT.out))
  clear HT
  go_upto_region 9 with (fail)
  refine wp_region_held_drew (S := (fun _ => True)) (by kernel_rfl) (trivial) (fun hHeld => ?_)
  refine wpAnyH_take (i := 0) (oi := { dst := some 31, op := Op.move (Operand.tmp 0), type := 103, pos := "tag.go:87", after := #[], guard := none }) (v := ?_) rfl (by kernel_rfl) (by kernel_rfl) (by kernel_rfl) (fun _ _ _ h => h) (Or.inl ⟨by kernel_rfl, ?_⟩) hHeld ?_
  rotate_left
  · (intro w hSw; (try dsimp only at hSw); go_simp); try with_reducible rfl
  try simp only [Act.put, List.setIfInBounds_toArray, List.set_cons_zero, List.set_cons_succ]
  refine wpAnyH_take (i := 1) (oi := { dst := some 32, op := Op.move (Operand.tmp 1), type := 9, pos := "tag.go:87", after := #[], guard := none }) (v := ?_) rfl (by kernel_rfl) (by kernel_rfl) (by kernel_rfl) (fun _ _ _ h => h) (Or.inl ⟨by kernel_rfl, ?_⟩) hHeld ?_
  rotate_left
  · (intro w hSw; (try dsimp only at hSw); go_simp); try with_reducible rfl
  try simp only [Act.put, List.setIfInBounds_toArray, List.set_cons_zero, List.set_cons_succ]
  refine wpAnyH_take (i := 2) (oi := { dst := some 33, op := Op.move (Operand.tmp 8), type := 9, pos := "tag.go:87", after := #[], guard := none }) (v := ?_) rfl (by kernel_rfl) (by kernel_rfl) (by kernel_rfl) (fun _ _ _ h => h) (Or.inl ⟨by kernel_rfl, ?_⟩) hHeld ?_
  rotate_left
  · (intro w hSw; (try dsimp only at hSw); go_simp); try with_reducible rfl
  try simp only [Act.put, List.setIfInBounds_toArray, List.set_cons_zero, List.set_cons_succ]
  refine wpAnyH_take (i := 4) (oi := { dst := some 35, op := Op.move (Operand.tmp 2), type := 9, pos := "tag.go:87", after := #[], guard := none }) (v := ?_) rfl (by kernel_rfl) (by kernel_rfl) (by kernel_rfl) (fun _ _ _ h => h) (Or.inl ⟨by kernel_rfl, ?_⟩) hHeld ?_
  rotate_left
  · (intro w hSw; (try dsimp only at hSw); go_simp); try with_reducible rfl
  try simp only [Act.put, List.setIfInBounds_toArray, List.set_cons_zero, List.set_cons_succ]
  refine wpAnyH_take (i := 5) (oi := { dst := some 36, op := Op.slice 9 (Operand.tmp 35) (some (Operand.const (Value.int IntKind.i64 28))) none none, type := 9, pos := "tag.go:87", after := #[{ on := 4, ground := Ground.data }], guard := none }) (v := ?_) rfl (by kernel_rfl) (by kernel_rfl) (by kernel_rfl) (fun _ _ _ h => h) (Or.inl ⟨by kernel_rfl, ?_⟩) hHeld ?_
  rotate_left
  · (intro w hSw; (try dsimp only at hSw); go_simp); try with_reducible rfl
  try simp only [Act.put, List.setIfInBounds_toArray, List.set_cons_zero, List.set_cons_succ]
  refine wpAnyH_ready (rs := [3]) (by kernel_rfl) (by simp) ?_
  refine AllReadyH.cons (o := { dst := some 34, op := Op.call { callee := Callee.value (Operand.func 73), args := #[Operand.tmp 31, Operand.tmp 32, Operand.tmp 33], argTypes := #[103, 9, 9] }, type := 9, pos := "tag.go:87", after := #[{ on := 0, ground := Ground.data }, { on := 1, ground := Ground.data }, { on := 2, ground := Ground.data }], guard := none }) rfl (fun K hK => ?_) AllReadyH.nil
  have hOld := hide hHeld
  clear hHeld
  go_simp
  refine (HSUM.out _ (tabAt_drew HT3.out)).mono ?_
  rintro e w4 ⟨rfl, hb⟩
  have HX4 := hide (HX3.out.drew.kept hb)
  clear hb
  (try go_wp2_with fail)
  refine hK.out _ _ (trivial) (fun hHeld => ?_)
  clear hK K hOld
  try simp only [Act.put, List.setIfInBounds_toArray, List.set_cons_zero, List.set_cons_succ]
  refine wpAnyH_take (i := 6) (oi := { dst := some 37, op := Op.binOp BinOp.neq 9 (Operand.tmp 34) (Operand.tmp 36) 9, type := 4, pos := "tag.go:87", after := #[{ on := 3, ground := Ground.data }, { on := 5, ground := Ground.data }], guard := none }) (v := ?_) rfl (by kernel_rfl) (by kernel_rfl) (by kernel_rfl) (fun _ _ _ h => h) (Or.inl ⟨by kernel_rfl, ?_⟩) hHeld ?_
  rotate_left
  · (intro w hSw; (try dsimp only at hSw); go_simp); try with_reducible rfl
  try simp only [Act.put, List.setIfInBounds_toArray, List.set_cons_zero, List.set_cons_succ]
  refine wpAnyH_done (by kernel_rfl) ?_ _
  clear hHeld HX3 HT3 HSUM

  obtain ⟨⟨d0, d1, d2, d3, d4⟩, dz, dl⟩ := tagC_cells HX4.out.tag
  obtain ⟨⟨g0, g1, g2, g3, g4⟩, gz, gl⟩ := tagC_cells HX4.out.res
  have hab := HX4.out.ab
  go_wp2_with fail
  exact bodyPost_ret (res_tag2 Tryz.results35 _ _ w.heap.size f1 f2 f3 f4 f5 _ rfl rfl (five_set HX4.out.res)) rfl ⟨rfl, ((((HX4.out.below.setCell (Nat.le_refl _) _).setCell (Nat.le_refl _) _).setCell (Nat.le_refl _) _).setCell (Nat.le_refl _) _).setCell (Nat.le_refl _) _⟩
end Go.Proofs.YtjfmkfhjbdiojaaGreat

namespace Go.Proofs.YtjfmkfhjbdiojaaGreat
set_option linter.unusedSimpArgs false
set_option linter.unusedVariables false
open Go.RowKit Go.WideShapes Go.ChangeShapes Go.ChangeAt

theorem parse_any (b o : Nat) (d l : List UInt8) (hd : d.length ≤ 9223372036854775807) (hm : l.length ≤ 9223372036854775807) (w : World) (ht : TabAt w b o) :
    Calls Tryz.prog 35 #[.pointer (some ⟨b, o, none⟩), .string (bs d), .string (bs l)] w fun e w' => e = .returned (.tuple #[parseV d l, .int .i64 (parseE d l)]) ∧ Below w.heap.size w w' := by
  by_cases hl : l.length = 32
  · by_cases h1 : TagOk (fld (l.take 28) 1 1) (fld (l.take 28) 2 2) (fld (l.take 28) 12 1) (fld (l.take 28) 13 1)
    · by_cases h2 : headZ (fld (l.take 28) 1 1) (fld (l.take 28) 2 2) (fld (l.take 28) 4 8) (fld (l.take 28) 12 1) (fld (l.take 28) 13 1) = l.take 28
      · by_cases h3 : sumL d (l.take 28) = l.drop 28
        · have hz := parseE_ok d l hl ⟨h1, h2⟩ h3
          rw [parseV_ok d l hz, hz, ← fld_take l 1 1 (by omega), ← fld_take l 2 2 (by omega), ← fld_take l 4 8 (by omega), ← fld_take l 12 1 (by omega), ← fld_take l 13 1 (by omega)]
          exact parse_good b o d l hl h1 h2 hd h3 w ht
        · have hz := parseE_sum d l hl ⟨h1, h2⟩ h3
          rw [parseV_no d l (by omega), hz]
          exact parse_sum b o d l hl h1 h2 hd h3 w ht
      · have hz := parseE_form d l (fun h => h2 h.2)
        rw [parseV_no d l (by omega), hz]
        exact parse_head b o d l hl h1 h2 w
    · have hz := parseE_form d l (fun h => h1 h.1)
      rw [parseV_no d l (by omega), hz]
      exact parse_right b o d l hl h1 w
  · have hz := parseE_len d l hl
    rw [parseV_no d l (by omega), hz]
    exact parse_len b o (bs d) l hl hm w
theorem new2 (w : World) (o o2 : Obj) : ((w.alloc o).alloc o2).heap[w.heap.size + 1]? = some o2 := by
  have := heap_new (w.alloc o) o2
  rwa [heap_alloc_sz] at this
theorem below2 (w : World) (o o2 : Obj) : Below w.heap.size w ((w.alloc o).alloc o2) := ((Below.refl _ _).alloc (Nat.le_refl _) _).alloc (by rw [heap_alloc_sz]; omega) _
theorem below5 {w W : World} {B : Nat} (h : Below B w W) (A : Nat) (hA : B ≤ A) (x0 x1 x2 x3 x4 : Value) : Below B w (((((W.setCell ⟨A, 0, none⟩ x0).setCell ⟨A, 1, none⟩ x1).setCell ⟨A, 2, none⟩ x2).setCell ⟨A, 3, none⟩ x3).setCell ⟨A, 4, none⟩ x4) :=
  ((((h.setCell hA _).setCell hA _).setCell hA _).setCell hA _).setCell hA _
/-- a tag that may be, made of any one -/
def mxZ (x : Int) : Int := max 0 x
def tkZ (k : Int) : Int := 1 + k % 3
def tnZ (n : Int) : Int := 1 + mxZ n % 255
def tlZ (l : Int) : Int := mxZ l % 65536
def tpZ (p n : Int) : Int := mxZ p % tnZ n
theorem mxZ_nn (x : Int) : 0 ≤ mxZ x := by unfold mxZ; omega
theorem tame_ok (k l p n : Int) (k0 : 0 ≤ k) : TagOk (tkZ k) (tlZ l) (tpZ p n) (tnZ n) := by
  have h1 := mxZ_nn n
  have h2 := mxZ_nn l
  have h3 := mxZ_nn p
  have h4 : 1 ≤ tnZ n ∧ tnZ n ≤ 255 := by unfold tnZ; omega
  have h5 := Int.emod_nonneg (mxZ p) (show tnZ n ≠ 0 by omega)
  have h6 := Int.emod_lt_of_pos (mxZ p) (show 0 < tnZ n by omega)
  unfold TagOk tkZ tlZ tpZ
  omega
theorem parseV_frame (k l s p n : Int) (h : TagOk k l p n) (s0 : 0 ≤ s) (s1 : s ≤ 18446744073709551615) (b o : Nat) (d : List UInt8) (hd : d.length ≤ 9223372036854775807) (w : World) (ht : TabAt w b o) :
    Calls Tryz.prog 35 #[.pointer (some ⟨b, o, none⟩), .string (bs d), .string (bs (frameL k l s p n d))] w fun e w' => e = .returned (.tuple #[.agg #[.int .u8 k, .int .i64 l, .int .u64 s, .int .i64 p, .int .i64 n], .int .i64 0]) ∧ Below w.heap.size w w' := by
  have h1 := parse_any b o d (frameL k l s p n d) hd (by rw [frameL_length]; omega) w ht
  obtain ⟨h2, h3⟩ := parse_frame k l s p n h s0 s1 d
  rw [h2, h3] at h1
  exact h1
theorem frame14 (d : List UInt8) : (frameL 2 0 5 0 1 d).take 14 = [255, 2, 0, 0, 0, 0, 0, 0, 0, 0, 0, 5, 0, 1] := by
  unfold frameL
  rw [List.take_append_of_le_length (by rw [headZ_length]; omega)]
  decide +kernel
end Go.Proofs.YtjfmkfhjbdiojaaGreat

namespace Go.Proofs.YtjfmkfhjbdiojaaGreat
set_option linter.unusedSimpArgs false
set_option linter.unusedVariables false
open Go.RowKit Go.WideShapes Go.ChangeShapes Go.ChangeAt Go.Deep

/-- what is known of a block -/
structure KnM where
  bad : Bool
  next : Int
def kn0 : KnM := ⟨false, 0⟩
def knC (_ : Nat) (x : KnM) : List Value := [.bool x.bad, .int .i64 x.next]
/-- a drive lies at block d, what it knows of blocks at b; its chip at p -/
structure DriveAt (w : World) (d b p q B : Nat) (G : Nat → Nat) (S : ChipM) (K : List KnM) : Prop where
  head : ∃ ds : Array Value, w.heap[d]? = some (.cells ds 98 (0, 0)) ∧ ds[0]? = some (.pointer (some ⟨p, 0, none⟩)) ∧ ds[1]? = some (.int .i64 (S.L.length : Int)) ∧ ds[2]? = some (.int .i64 (S.pgs : Int)) ∧ ds[3]? = some (.int .i64 (S.size : Int)) ∧ (∀ k, k < 256 → ds[4 + k]? = some (.int .u32 (tabN k : Int))) ∧ ds[260]? = some (.slice (some ⟨b, 0, none⟩) K.length K.length)
  row : RwAt w b 147 2 knC kn0 K
  chip : NandAt w p q B G S
  len : K.length = S.L.length
section
variable {w w' : World} {d b p q B : Nat} {G : Nat → Nat} {S S' : ChipM} {K : List KnM}
theorem DriveAt.below (h : DriveAt w d b p q B G S K) (hb : Below w.heap.size w w') : DriveAt w' d b p q B G S K := by
  obtain ⟨ds, h1, h2⟩ := h.head
  exact ⟨⟨ds, (hb.block _ (heap_lt h1)).trans h1, h2⟩, h.row.below hb, h.chip.below hb, h.len⟩
theorem DriveAt.drew (h : DriveAt w d b p q B G S K) : DriveAt w.drew d b p q B G S K := ⟨h.head, h.row.kept rfl, h.chip.drew, h.len⟩
theorem DriveAt.drewN (h : DriveAt w d b p q B G S K) (n : Nat) : DriveAt (w.drewN n) d b p q B G S K := ⟨h.head, h.row.kept rfl, h.chip.drewN n, h.len⟩
theorem DriveAt.cell0 (h : DriveAt w d b p q B G S K) : w.cell? ⟨d, 0, none⟩ = some (.pointer (some ⟨p, 0, none⟩)) := by
  obtain ⟨ds, h1, h2, -⟩ := h.head
  rw [cell_of_block h1]; exact h2
theorem DriveAt.cellSize (h : DriveAt w d b p q B G S K) : w.cell? ⟨d, 3, none⟩ = some (.int .i64 (S.size : Int)) := by
  obtain ⟨ds, h1, -, -, -, h2, -⟩ := h.head
  rw [cell_of_block h1]; exact h2
theorem DriveAt.cellPages (h : DriveAt w d b p q B G S K) : w.cell? ⟨d, 2, none⟩ = some (.int .i64 (S.pgs : Int)) := by
  obtain ⟨ds, h1, -, -, h2, -⟩ := h.head
  rw [cell_of_block h1]; exact h2
theorem DriveAt.cellRow (h : DriveAt w d b p q B G S K) : w.cell? ⟨d, 260, none⟩ = some (.slice (some ⟨b, 0, none⟩) K.length K.length) := by
  obtain ⟨ds, h1, -, -, -, -, -, h2⟩ := h.head
  rw [cell_of_block h1]; exact h2
theorem DriveAt.tab (h : DriveAt w d b p q B G S K) : TabAt w d 4 := fun k hk => by
  obtain ⟨ds, h1, -, -, -, -, h2, -⟩ := h.head
  rw [cell_of_block h1]; exact h2 k hk
theorem DriveAt.few (h : DriveAt w d b p q B G S K) : K.length ≤ 256 := h.len ▸ h.chip.few.1
theorem DriveAt.at (h : DriveAt w d b p q B G S K) (k : Nat) (hk : k < K.length) : w.cell? ⟨b, k * 2, none⟩ = some (.bool (K.getD k kn0).bad) ∧ w.cell? ⟨b, k * 2 + 1, none⟩ = some (.int .i64 (K.getD k kn0).next) ∧ w.frozen? ⟨b, k * 2, none⟩ = false ∧ w.frozen? ⟨b, k * 2 + 1, none⟩ = false :=
  ⟨h.row.at k hk 0 (by decide), h.row.at k hk 1 (by decide), h.row.free _, h.row.free _⟩
/-- the chip has turned -/
theorem DriveAt.turn (h : DriveAt w d b p q B G S K) (hn : NandAt w' p q B G S') (ht : Turn B w w') (hL : S'.L.length = S.L.length) (hp : S'.pgs = S.pgs) (hs : S'.size = S.size) : DriveAt w' d b p q B G S' K := by
  obtain ⟨ds, h1, h2, h3, h4, h5, h6⟩ := h.head
  obtain ⟨cs, c1, c2⟩ := h.row.ex
  exact ⟨⟨ds, ht.2.cells h1 (by simp), h2, by rw [hL]; exact h3, by rw [hp]; exact h4, by rw [hs]; exact h5, h6⟩, ⟨cs, ht.2.cells c1 (by simp), c2⟩, hn, by rw [hL]; exact h.len⟩
set_option maxRecDepth 100000 in
theorem dat_yes (k : Nat) (hk : k < K.length) (w : World) (h : DriveAt w d b p q B G S K) :
    Calls Tryz.prog 119 #[.pointer (some ⟨d, 0, none⟩), .int .i64 (k : Int)] w fun e w' => e = .returned (.pointer (some ⟨b, k * 2, none⟩)) ∧ w = w' := by
  have c := h.cellRow
  have hf := h.few
  clear h
  go_enter Tryz.func119, Tryz.ntmps119
  go_wp2_with fail
  go_ret
  exact ⟨rfl, rfl⟩
set_option maxRecDepth 100000 in
theorem dat_no (i : Int) (hi : i < 0 ∨ (K.length : Int) ≤ i) (w : World) (h : DriveAt w d b p q B G S K) :
    Calls Tryz.prog 119 #[.pointer (some ⟨d, 0, none⟩), .int .i64 i] w fun e w' => e = .returned (.pointer none) ∧ w = w' := by
  have c := h.cellRow
  have hf := h.few
  clear h
  by_cases h0 : i < 0
  · go_enter Tryz.func119, Tryz.ntmps119
    go_wp2_with fail
    go_ret
    exact ⟨rfl, rfl⟩
  · have h1 : (K.length : Int) ≤ i := by omega
    go_enter Tryz.func119, Tryz.ntmps119
    go_wp2_with fail
    go_ret
    exact ⟨rfl, rfl⟩
set_option maxRecDepth 100000 in
theorem dat_nil (i : Int) (w : World) : Calls Tryz.prog 119 #[.pointer none, .int .i64 i] w fun e w' => e = .returned (.pointer none) ∧ w = w' := by
  go_enter Tryz.func119, Tryz.ntmps119
  go_wp2_with fail
  go_ret
  exact ⟨rfl, rfl⟩
/-- may a block be asked anything that changes it? -/
def mayE (K : List KnM) (i : Int) : Int := if i < 0 ∨ (K.length : Int) ≤ i then 3 else if (K.getD i.toNat kn0).bad = true then 12 else 0
set_option maxRecDepth 100000 in
theorem may_any (i : Int) (w : World) (h : DriveAt w d b p q B G S K) :
    Calls Tryz.prog 93 #[.pointer (some ⟨d, 0, none⟩), .int .i64 i] w fun e w' => e = .returned (.int .i64 (mayE K i)) ∧ w = w' := by
  by_cases hi : i < 0 ∨ (K.length : Int) ≤ i
  · have HA := hide (dat_no i hi w h)
    have HE := hide (show mayE K i = 3 by unfold mayE; rw [if_pos hi])
    clear h hi
    go_enter Tryz.func93, Tryz.ntmps93
    go_wp2_with fail
    refine HA.out.mono ?_
    rintro e w1 ⟨rfl, rfl⟩
    go_wp2_with fail
    go_ret
    exact ⟨ret_int HE.out.symm, rfl⟩
  · obtain ⟨k, rfl⟩ : ∃ k : Nat, (k : Int) = i := ⟨i.toNat, by omega⟩
    have hk : k < K.length := by omega
    have HA := hide (dat_yes k hk w h)
    have hE : mayE K (k : Int) = if (K.getD k kn0).bad = true then 12 else 0 := by unfold mayE; rw [if_neg hi, Int.toNat_natCast]
    have c := h.cellRow
    obtain ⟨a0, a1, -, -⟩ := h.at k hk
    generalize K.getD k kn0 = x at *
    obtain ⟨xb, xn⟩ := x
    have HE := hide hE
    dsimp only at *
    clear h hi hE a1
    cases xb with
    | true =>
      go_enter Tryz.func93, Tryz.ntmps93
      go_wp2_with fail
      refine HA.out.mono ?_
      rintro e w1 ⟨rfl, rfl⟩
      go_wp2_with fail
      go_ret
      exact ⟨ret_int (by rw [HE.out]; rfl), rfl⟩
    | false =>
      go_enter Tryz.func93, Tryz.ntmps93
      go_wp2_with fail
      refine HA.out.mono ?_
      rintro e w1 ⟨rfl, rfl⟩
      go_wp2_with fail
      go_ret
      exact ⟨ret_int (by rw [HE.out]; rfl), rfl⟩
end
end Go.Proofs.YtjfmkfhjbdiojaaGreat

namespace Go.Proofs.YtjfmkfhjbdiojaaGreat
set_option linter.unusedSimpArgs false
set_option linter.unusedVariables false
open Go.RowKit Go.WideShapes Go.ChangeShapes Go.ChangeAt Go.Deep

set_option maxRecDepth 100000 in
theorem dnew_nil (w : World) : Calls Tryz.prog 20 #[.pointer none] w fun e w' => e = .returned (.tuple #[.pointer none, .int .i64 1]) ∧ w = w' := by
  go_enter Tryz.func20, Tryz.ntmps20
  go_wp2_with fail
  go_ret2
  exact ⟨rfl, rfl⟩
def DNilIs (w : World) (e : Ending) (w' : World) : Prop := e = .returned (.tuple #[]) ∧ w = w'
set_option maxRecDepth 100000 in
theorem dchip_nil (w : World) : Calls Tryz.prog 47 #[.pointer none] w fun e w' => e = .returned (.pointer none) ∧ w = w' := by
  go_enter Tryz.func47, Tryz.ntmps47
  go_wp2_with fail
  go_ret
  exact ⟨rfl, rfl⟩
set_option maxRecDepth 100000 in
theorem dbad_nil (i : Int) (w : World) : Calls Tryz.prog 98 #[.pointer none, .int .i64 i] w fun e w' => e = .returned (.bool false) ∧ w = w' := by
  go_enter Tryz.func98, Tryz.ntmps98
  go_wp2_with fail
  refine (dat_nil i _).mono ?_
  rintro e w1 ⟨rfl, rfl⟩
  go_wp2_with fail
  go_ret
  exact ⟨rfl, rfl⟩
set_option maxRecDepth 100000 in
theorem dnext_nil (i : Int) (w : World) : Calls Tryz.prog 94 #[.pointer none, .int .i64 i] w fun e w' => e = .returned (.int .i64 (-1)) ∧ w = w' := by
  go_enter Tryz.func94, Tryz.ntmps94
  go_wp2_with fail
  refine (dat_nil i _).mono ?_
  rintro e w1 ⟨rfl, rfl⟩
  go_wp2_with fail
  go_ret
  exact ⟨rfl, rfl⟩
set_option maxRecDepth 100000 in
theorem dmay_nil (i : Int) (w : World) : Calls Tryz.prog 93 #[.pointer none, .int .i64 i] w fun e w' => e = .returned (.int .i64 1) ∧ w = w' := by
  go_enter Tryz.func93, Tryz.ntmps93
  go_wp2_with fail
  go_ret
  exact ⟨rfl, rfl⟩
set_option maxRecDepth 100000 in
theorem derase_nil (i : Int) (w : World) : Calls Tryz.prog 117 #[.pointer none, .int .i64 i] w fun e w' => e = .returned (.int .i64 1) ∧ w = w' := by
  go_enter Tryz.func117, Tryz.ntmps117
  go_wp2_with fail
  refine (dmay_nil i _).mono ?_
  rintro e w1 ⟨rfl, rfl⟩
  go_wp2_with fail
  go_ret
  exact ⟨rfl, rfl⟩
set_option maxRecDepth 100000 in
theorem dprog_nil (i : Int) (k l s n m : Int) (t : ByteArray) (w : World) : Calls Tryz.prog 63 #[.pointer none, .int .i64 i, .agg #[.int .u8 k, .int .i64 l, .int .u64 s, .int .i64 n, .int .i64 m], .string t] w fun e w' => e = .returned (.tuple #[.int .i64 0, .int .i64 1]) ∧ Below w.heap.size w w' := by
  have HB := hide ((Below.refl w.heap.size w).alloc (Nat.le_refl _) (.cells #[.int .u8 k, .int .i64 l, .int .u64 s, .int .i64 n, .int .i64 m] 47))
  go_enter Tryz.func63, Tryz.ntmps63
  go_wp2_with fail
  refine (dmay_nil i _).mono ?_
  rintro e w1 ⟨rfl, rfl⟩
  go_wp2_with fail
  go_ret2
  exact ⟨rfl, HB.out⟩
section
variable {w w' : World} {d b p q B : Nat} {G : Nat → Nat} {S S' : ChipM} {K : List KnM}
def nextK (S : ChipM) (K : List KnM) (k : Nat) : Int := if S.off = true then -1 else (K.getD k kn0).next
set_option maxRecDepth 100000 in
theorem dnext_yes (k : Nat) (hk : k < K.length) (w : World) (h : DriveAt w d b p q B G S K) :
    Calls Tryz.prog 94 #[.pointer (some ⟨d, 0, none⟩), .int .i64 (k : Int)] w fun e w' => e = .returned (.int .i64 (nextK S K k)) ∧ w = w' := by
  have HA := hide (dat_yes k hk w h)
  have HO := hide (off_any p q B G S w h.chip)
  have c0 := h.cell0
  obtain ⟨a0, a1, -, -⟩ := h.at k hk
  have HE := hide (show nextK S K k = if S.off = true then -1 else (K.getD k kn0).next from rfl)
  generalize (K.getD k kn0).next = xn at *
  generalize S.off = o at *
  clear h a0
  go_enter Tryz.func94, Tryz.ntmps94
  go_wp2_with fail
  refine HA.out.mono ?_
  rintro e w1 ⟨rfl, rfl⟩
  go_wp2_with fail
  refine HO.out.mono ?_
  rintro e w1 ⟨rfl, rfl⟩
  cases o with
  | true =>
    go_wp2_with fail
    go_ret
    exact ⟨ret_int (by rw [HE.out]; rfl), rfl⟩
  | false =>
    go_wp2_with fail
    go_ret
    exact ⟨ret_int (by rw [HE.out]; rfl), rfl⟩
/-- nothing is known of the next pages -/
def fgK (K : List KnM) (j : Nat) : List KnM := (K.take j).map (fun x => ⟨x.bad, -1⟩) ++ K.drop j
theorem fgK_len (K : List KnM) (j : Nat) : (fgK K j).length = K.length := by
  unfold fgK
  rw [List.length_append, List.length_map, List.length_take, List.length_drop]; omega
theorem fgK_at (K : List KnM) (j k : Nat) (hk : k < K.length) : (fgK K j).getD k kn0 = if k < j then ⟨(K.getD k kn0).bad, -1⟩ else K.getD k kn0 := by
  unfold fgK
  by_cases h : k < j
  · rw [if_pos h]
    simp [List.getD, List.getElem?_append, h, hk, List.getElem?_take]
    rw [if_pos (by omega)]
    rfl
  · rw [if_neg h]
    simp only [List.getD]
    rw [List.getElem?_append_right (by simp; omega), List.getElem?_drop]
    congr 2
    simp
    omega
theorem NandAt.setOther (h : NandAt w p q B G S) {g : Nat} {cs : Array Value} {t : TypeId} (hb : w.heap[g]? = some (.cells cs t (0, 0))) (h1 : 111 ≠ t) (h2 : 122 ≠ t) (h3 : 107 ≠ t) (j : Nat) (v : Value) : NandAt (w.setCell ⟨g, j, none⟩ v) p q B G S := by
  have n1 : g ≠ p := fun e => by
    rw [e, h.head] at hb
    simp only [Option.some.injEq, Obj.cells.injEq] at hb
    exact h1 hb.2.1
  exact ⟨(block_setCell_other n1 _ _).trans h.head, h.row.other (Ne.symm (rows_apart_head h.row hb h2)) j v, fun k hk => (h.page k hk).other (Ne.symm (rows_apart_head (h.page k hk) hb h3)) j v, h.inj, h.base, h.len, h.few⟩
/-- what is known of a block is turned -/
theorem DriveAt.know (h : DriveAt w d b p q B G S K) (k : Nat) (hk : k < K.length) (j : Nat) (hj : j < 2) (v : Value) (x : KnM) (hx : knC k x = (knC k (K.getD k kn0)).set j v) : DriveAt (w.setCell ⟨b, k * 2 + j, none⟩ v) d b p q B G S (K.set k x) := by
  obtain ⟨ds, h1, h2, h3, h4, h5, h6, h7⟩ := h.head
  obtain ⟨cs, c1, c2⟩ := h.row.ex
  have hdb : b ≠ d := fun e => by
    rw [e, h1] at c1
    simp at c1
  have hl : (K.set k x).length = K.length := List.length_set
  exact ⟨⟨ds, (block_setCell_other hdb _ _).trans h1, h2, h3, h4, h5, h6, by rw [hl]; exact h7⟩, h.row.set k hk j hj v x hx hj, h.chip.setOther c1 (by decide) (by decide) (by decide) _ _, by rw [hl]; exact h.len⟩
theorem DriveAt.same (h : DriveAt w d b p q B G S K) {K' : List KnM} (hl : K'.length = K.length) (he : ∀ k, k < K.length → K'.getD k kn0 = K.getD k kn0) : DriveAt w d b p q B G S K' := by
  have : K' = K := by
    apply List.ext_getElem hl
    intro k h1 h2
    have := he k h2
    simpa [List.getD, h1, h2] using this
  rw [this]; exact h
theorem fgK_next (K : List KnM) (j : Nat) (hj : j < K.length) : fgK K (j + 1) = (fgK K j).set j ⟨(K.getD j kn0).bad, -1⟩ := by
  apply List.ext_getElem
  · rw [List.length_set, fgK_len, fgK_len]
  · intro k h1 h2
    rw [fgK_len] at h1
    have e1 := fgK_at K (j + 1) k h1
    have e2 := fgK_at K j k h1
    have g1 : (fgK K (j + 1))[k]'(by rw [fgK_len]; exact h1) = (fgK K (j + 1)).getD k kn0 := by simp [List.getD, fgK_len, h1]
    have g2 : (fgK K j)[k]'(by rw [fgK_len]; exact h1) = (fgK K j).getD k kn0 := by simp [List.getD, fgK_len, h1]
    rw [List.getElem_set, g1, e1]
    by_cases e : j = k
    · subst e
      rw [if_pos (by omega), if_pos rfl]
    · rw [if_neg e, g2, e2]
      by_cases h3 : k < j
      · rw [if_pos (by omega), if_pos h3]
      · rw [if_neg (by omega), if_neg h3]
def DForgetIs (d b p q B : Nat) (G : Nat → Nat) (S : ChipM) (K : List KnM) (w : World) (e : Ending) (w' : World) : Prop := e = .returned (.tuple #[]) ∧ DriveAt w' d b p q B G S (fgK K K.length) ∧ Only b w w'
set_option maxRecDepth 100000 in
set_option maxHeartbeats 400000 in
theorem forget_any (w : World) (h : DriveAt w d b p q B G S K) : Calls Tryz.prog 46 #[.pointer (some ⟨d, 0, none⟩)] w (DForgetIs d b p q B G S K w) := by
  have H := hide h
  have HF := hide h.few
  have c := h.cellRow
  have HN := hide (fun j hj => fgK_next K j hj)
  have HAT := hide (fun j k hk => fgK_at K j k hk)
  clear h
  go_enter Tryz.func46, Tryz.ntmps46
  go_wp2_with fail
  clear c
  go_loopw [8] (fun i W => ∃ k : Nat, k ≤ K.length ∧ i = .int .i64 k ∧ DriveAt W d b p q B G S (fgK K k) ∧ Only b w W) (fun i _ => K.length - (intOf i).toNat)
  case atStart => exact ⟨0, by omega, rfl, H.out.same (fgK_len K 0) (fun k hk => by rw [HAT.out 0 k hk, if_neg (by omega)]), Only.refl _ _⟩
  case round =>
    obtain ⟨k, hk, rfl, hd, ho⟩ := hrel
    have DK := hide hd
    have OK := hide ho
    clear hd ho
    have c := DK.out.cellRow
    rw [fgK_len] at c
    have hf := HF.out
    by_cases hlt : k < K.length
    · obtain ⟨a0, a1, f0, f1⟩ := DK.out.at k (by rw [fgK_len]; exact hlt)
      have D2 := hide (DK.out.know k (by rw [fgK_len]; exact hlt) 1 (by decide) (.int .i64 (-1)) ⟨(K.getD k kn0).bad, -1⟩ (by rw [HAT.out k k hlt, if_neg (by omega)]; rfl))
      have O2 := hide (OK.out.trans (Only.setCell (a := wr) b (k * 2 + 1) (.int .i64 (-1))))
      have HNK := hide (HN.out k hlt)
      clear a0 f0
      generalize ((fgK K k).getD k kn0).next = xn at *
      go_wp2_with fail
      go_roundw
      case rel => exact ⟨k + 1, by omega, by go_num, by rw [HNK.out]; exact D2.out, O2.out⟩
      case measure => simp [intOf]; omega
    · obtain rfl : k = K.length := by omega
      go_wp2_with fail
      go_end0
      exact ⟨rfl, DK.out, OK.out⟩
end
end Go.Proofs.YtjfmkfhjbdiojaaGreat
