/-
  Layer 5, the law's calls: same.
-/
import Derived.Test.YthippbckjldijaaRNand6
--import Derived.Test.Zdbg
namespace Go.Proofs.Ythippbckjldijaa
set_option linter.unusedSimpArgs false
set_option linter.unusedVariables false
open Go.RowKit Go.WideShapes Go.ChangeShapes Go.ChangeAt Go.Deep

section
variable {c pq n e a f m cp B B' p q : Nat} {G G' : Nat → Nat} {S : ChipM}
set_option maxRecDepth 100000 in
set_option maxHeartbeats 1000000 in
theorem same_any (hsz : S.size ≤ 1024) (hz : Sized S) (w : World) (h : NandAt w p q B G S) (hr : RefAt w c pq n e a f m cp G' B' S) :
    Calls Try.prog 12 #[.pointer (some ⟨p, 0, none⟩), .pointer (some ⟨c, 0, none⟩)] w fun x w' => x = .returned (.bool true) ∧ Below w.heap.size w w' := by
  have HFW := hide hr.few
  have HS := hide (fun W hW => sins_any p q B G S W hW)
  have HO := hide (fun W hW => off_any p q B G S W hW)
  have HNX := hide (fun (k : Nat) (W : World) (hW : NandAt W p q B G S) (hk : k < S.L.length) => show Calls Try.prog 27 #[.pointer (some ⟨p, 0, none⟩), .int .i64 (k : Int)] W fun e w' => e = .returned (.int .i64 (S.blk k).next) ∧ W = w' by
    have h1 := next_any p q B G S (k : Int) W hW
    rw [show nextZ S (k : Int) = (S.blk k).next by unfold nextZ; rw [if_pos (by omega), Int.toNat_natCast]] at h1
    exact h1)
  have HER := hide (fun (k : Nat) (W : World) (hW : NandAt W p q B G S) (hk : k < S.L.length) => show Calls Try.prog 28 #[.pointer (some ⟨p, 0, none⟩), .int .i64 (k : Int)] W fun e w' => e = .returned (.int .i64 (S.blk k).erased) ∧ W = w' by
    have h1 := erases_any p q B G S (k : Int) W hW
    rw [show erasesZ S (k : Int) = (S.blk k).erased by unfold erasesZ; rw [if_pos (by omega), Int.toNat_natCast]] at h1
    exact h1)
  have HRD := hide (fun b i W hW => read_any p q B G S b i W hW)
  have HRR := hide (fun b i W hW => rread_any (c := c) (pq := pq) (n := n) (e := e) (a := a) (f := f) (m := m) (cp := cp) (B := B') (G := G') (S := S) hsz hz b i W hW)
  have HCT := hide (count_any p q B G S w h)
  have NN := hide h
  have RR := hide hr
  clear h hr hz
  go_enter Try.func12, Try.ntmps12
  go_wp2_with fail
  refine HCT.out.mono ?_
  rintro e0 w1 ⟨rfl, hb⟩
  have HB1 := hide hb
  have N1 := hide (NN.out.below hb)
  have R1 := hide (RR.out.below hb)
  clear hb HCT
  have c12 : w1.cell? ⟨c, 12, none⟩ = some (.int .i64 S.progs) := R1.out.cell 12
  have c13 : w1.cell? ⟨c, 13, none⟩ = some (.int .i64 S.eras) := R1.out.cell 13
  have c14 : w1.cell? ⟨c, 14, none⟩ = some (.int .i64 S.sins) := R1.out.cell 14
  have c11 : w1.cell? ⟨c, 11, none⟩ = some (.bool S.off) := R1.out.cell 11
  have c0 : w1.cell? ⟨c, 0, none⟩ = some (.int .i64 (S.L.length : Int)) := R1.out.cell 0
  go_upto_region 2 with (fail)
  go_quiet ((first | (go_at_call 30; with_reducible exact quiet_eq (HS.out _ (N1.out.drewN _))) | (go_at_call 29; with_reducible exact quiet_eq (HO.out _ (N1.out.drewN _)))))
  generalize hv : w1.drewN _ = v1
  have HBV := hide (show Below w.heap.size w v1 from hv ▸ below_drewN HB1.out _)
  have c0v : v1.cell? ⟨c, 0, none⟩ = some (.int .i64 (S.L.length : Int)) := hv ▸ c0
  clear hv c0 c11 c12 c13 c14 N1 R1 HB1
  go_wp2_with fail
  clear c0v
  go_loopw [56] (fun i W => ∃ k : Nat, k ≤ S.L.length ∧ i = .int .i64 k ∧ Below w.heap.size w W) (fun i _ => S.L.length - (intOf i).toNat)
  case atStart => exact ⟨0, by omega, rfl, HBV.out⟩
  case round =>
    clear HBV
    obtain ⟨k, hk, rfl, hb⟩ := hrel
    have HB := hide hb
    have NK := hide (NN.out.below hb)
    have RK := hide (RR.out.below hb)
    clear hb
    by_cases hlt : k < S.L.length
    · have c4 : wr.cell? ⟨c, 4, none⟩ = some (.slice (some ⟨n, 0, none⟩) S.L.length S.L.length) := RK.out.cell 4
      have c5 : wr.cell? ⟨c, 5, none⟩ = some (.slice (some ⟨e, 0, none⟩) S.L.length S.L.length) := RK.out.cell 5
      have c1 : wr.cell? ⟨c, 1, none⟩ = some (.int .i64 (S.pgs : Int)) := RK.out.cell 1
      have dn := (RK.out.at_next k hlt).1
      have de := (RK.out.at_eras k hlt).1
      have hfw := HFW.out
      go_upto_region 7 with (fail)
      go_quiet ((first | (go_at_call 27; with_reducible exact quiet_eq (HNX.out k _ (NK.out.drewN _) hlt)) | (go_at_call 28; with_reducible exact quiet_eq (HER.out k _ (NK.out.drewN _) hlt))))
      generalize hv : wr.drewN _ = v1
      have HBV := hide (show Below w.heap.size w v1 from hv ▸ below_drewN HB.out _)
      have c1v : v1.cell? ⟨c, 1, none⟩ = some (.int .i64 (S.pgs : Int)) := hv ▸ c1
      clear hv c1 c4 c5 dn de NK RK HB
      go_wp2_with fail
      clear c1v
      go_loopw [87] (fun i W => ∃ j : Nat, j ≤ S.pgs ∧ i = .int .i64 j ∧ Below w.heap.size w W) (fun i _ => S.pgs - (intOf i).toNat)
      case atStart => exact ⟨0, by omega, rfl, HBV.out⟩
      case round =>
        clear HBV
        obtain ⟨j, hj, rfl, hb⟩ := hrel
        have HB := hide hb
        clear hb
        by_cases hlj : j < S.pgs
        · go_wp2_with fail
          refine (HRD.out _ _ _ (NN.out.below HB.out)).mono ?_
          rintro e0 w2 ⟨rfl, hb⟩
          have HB2 := hide (below_trans HB.out hb)
          clear hb HB
          go_wp2_with fail
          refine (HRR.out _ _ _ (RR.out.below HB2.out)).mono ?_
          rintro e0 w3 ⟨rfl, hb⟩
          have HB3 := hide (below_trans HB2.out hb)
          clear hb HB2
          generalize (readP S (k : Int) (j : Int)).1 = x1 at *
          generalize (readP S (k : Int) (j : Int)).2 = x2 at *
          generalize askE S (k : Int) (j : Int) = ae at *
          go_wp2_with fail
          go_roundw
          case rel => exact ⟨j + 1, by omega, by go_num, HB3.out⟩
          case measure => simp [intOf]; omega
        · obtain rfl : j = S.pgs := by omega
          go_wp2_with fail
          go_roundw
          case rel => exact ⟨k + 1, by omega, by go_num, HB.out⟩
          case measure => simp [intOf]; omega
    · obtain rfl : k = S.L.length := by omega
      go_wp2_with fail
      go_ret
      exact ⟨rfl, HB.out⟩
end
end Go.Proofs.Ythippbckjldijaa
