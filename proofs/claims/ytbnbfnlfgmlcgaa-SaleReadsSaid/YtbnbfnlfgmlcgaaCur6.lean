/-
  Layer 4: the document's Write by contract.
-/
import Derived.Test.YtbnbfnlfgmlcgaaCur5
namespace Go.Proofs.Ytbnbfnlfgmlcgaa
set_option linter.unusedSimpArgs false
set_option linter.unusedVariables false
open Go.RowKit

theorem wrF_bad (l : List UInt8) (x : Fld) : (wrF l true x).2 = true := by unfold wrF wrB; split <;> (try split) <;> simp
theorem wrFs_bad (m : List Fld) : ∀ k, (wrFs (m.take k)).2 = true → (wrFs m).2 = true := by
  intro k h
  have key : ∀ (r : List Fld) (l : List UInt8), ((r.foldl (fun z x => wrF z.1 z.2 x) (l, true)).2) = true := by
    intro r
    induction r with
    | nil => intro l; rfl
    | cons x r ih =>
      intro l
      rw [List.foldl_cons]
      have := wrF_bad l x
      generalize wrF l true x = z at *
      obtain ⟨z1, z2⟩ := z
      simp only at this
      subst this
      exact ih z1
  have e : wrFs m = (m.drop k).foldl (fun z x => wrF z.1 z.2 x) (wrFs (m.take k)) := by
    unfold wrFs
    rw [← List.foldl_append, List.take_append_drop]
  rw [e]
  generalize wrFs (m.take k) = z at *
  obtain ⟨z1, z2⟩ := z
  simp only at h
  subst h
  exact key _ _
def refS (m : List Fld) : ByteArray := if (wrFs m).2 = true then ⟨#[]⟩ else bs (wrFs m).1
theorem one_byte' (w : World) (q : Nat) (hq : q ≤ 255) : (convert 44 9 (.slice (some ⟨w.heap.size, 0, none⟩) 1 1)).run Try.prog (w.alloc (.cells #[.int .u8 (q : Int)] 5)) = .ok (.string (bs [UInt8.ofNat q])) (w.alloc (.cells #[.int .u8 (q : Int)] 5)) := by
  have := one_byte w q
  rw [show ((q : Int) % 256) = (q : Int) by omega, Nat.mod_eq_of_lt (by omega)] at this
  exact this
theorem putS_one (q : Nat) (hq : q ≤ 255) : putS (q : Int) 1 = [UInt8.ofNat q] := by
  rw [putS, if_pos (by omega), Int.toNat_natCast]
  show putL q 1 = _
  simp [putL, Nat.mod_eq_of_lt (show q < 256 by omega)]
set_option maxRecDepth 100000 in
set_option maxHeartbeats 2000000 in
theorem refWrite_any (m : List Fld) (hm : m.length ≤ 1000) (hg : ∀ x ∈ m, FldGood x) (a : Option Addr) (cap : Nat) (w : World) (hF : FldsAt w w.heap.size a m) :
    Calls Try.prog 29 #[.slice a m.length cap] w fun e w' => e = .returned (.tuple #[.string (refS m), .bool (!(wrFs m).2)]) ∧ Below w.heap.size w w' := by
  have HF := hide hF
  have HG := hide hg
  have HBAD := hide (wrFs_bad m)
  have HS := hide (show refS m = if (wrFs m).2 = true then ⟨#[]⟩ else bs (wrFs m).1 from rfl)
  have HFIN := hide (show (wrFs (m.take m.length)) = wrFs m by rw [List.take_length])
  have HNX := hide (fun k (hlt : k < m.length) => (show wrFs (m.take (k + 1)) = wrF (wrFs (m.take k)).1 (wrFs (m.take k)).2 (m.getD k fld0) by rw [take_getD m k hlt, wrFs_snoc]))
  generalize refS m = RS at *
  generalize wrFs m = WF at *
  clear hF hg
  go_enter Try.func29, Try.ntmps29
  go_wp2_with fail
  go_loopw [4, 5] (fun s i W => ∃ k : Nat, k ≤ m.length ∧ i = .int .i64 k ∧ (wrFs (m.take k)).2 = false ∧ s = .string (bs (wrFs (m.take k)).1) ∧ Below w.heap.size w W) (fun _ i _ => m.length - (intOf i).toNat)
  case atStart => exact ⟨0, by omega, rfl, rfl, rfl, Below.refl _ _⟩
  case round =>
    obtain ⟨k, hk, rfl, hz2, rfl, hB⟩ := hrel
    have HB := hide hB
    by_cases hlt : k < m.length
    · obtain ⟨g, rfl, hgB, c0, c1, c2, c3⟩ := (HF.out.below hB).at k hlt
      obtain ⟨⟨k0, k2⟩, ⟨w0, w1⟩, ⟨n0, n1⟩, hs⟩ := HG.out _ (getD_mem m k hlt)
      have hnx := HNX.out k hlt
      have hll : (wrFs (m.take k)).1.length ≤ 1000000 := by have := wrFs_len (m.take k); rw [List.length_take] at this; omega
      have hbad := HBAD.out (k + 1)
      rw [hnx] at hbad
      have HNXK := hide hnx
      clear hnx
      generalize m.getD k fld0 = x at *
      generalize hzz : wrFs (m.take k) = z at *
      obtain ⟨l, bad⟩ := z
      obtain ⟨kk, wd, n, s⟩ := x
      simp only at *
      subst hz2
      have HA := hide (HB.out.alloc HB.out.size (.cells #[.int .i64 kk, .int .i64 wd, .int .u64 n, .string s] 92))
      have hgw : g < wr.heap.size := Nat.lt_of_lt_of_le hgB HB.out.size
      have hls : (bs l).size ≤ 1000000 := by rw [bs_size]; exact hll
      have hn64 : n < 18446744073709551616 := by omega
      clear hB hgB hzz hll
      obtain rfl | rfl | rfl : kk = 0 ∨ kk = 1 ∨ kk = 2 := by omega
      · have HR := hide (show wrF l false ⟨0, wd, n, s⟩ = (wrL l (putS n wd) false (fitsB n.toNat wd), wrB false (fitsB n.toNat wd)) from rfl)
        have hf := fun W => rfits_any n n0 hn64 wd W
        have hp := hide (fun W => rput_all n n0 n1 wd W)
        have hps : (bs (putS n wd)).size ≤ 8 := by rw [bs_size]; exact putS_le n wd
        have hadd := hide (bs_append l (putS n wd))
        rw [HR.out] at hbad
        generalize hL : bs l = L at *
        generalize hPS : bs (putS n wd) = PS at *
        have HPS := hide hPS
        have HL := hide hL
        clear hPS hL
        cases hfit : fitsB n.toNat wd
        · rw [hfit] at hf hbad
          have HF2 := hide hf
          have hWF : WF.2 = true := hbad rfl
          have HWF := hide hWF
          clear hf hbad hWF
          go_wp2_with fail
          refine (HF2.out _).mono ?_
          rintro e w2 ⟨rfl, rfl⟩
          go_wp2
          go_ret2
          exact ⟨by rw [HS.out, if_pos HWF.out, HWF.out]; rfl, HA.out⟩
        · rw [hfit] at hf HR
          have HF2 := hide hf
          have HR2 := hide (show wrF l false ⟨0, wd, n, s⟩ = (l ++ putS n wd, false) by rw [HR.out]; rfl)
          clear hf hbad HR hfit
          go_wp2_with fail
          refine (HF2.out _).mono ?_
          rintro e w2 ⟨rfl, rfl⟩
          go_wp2_with fail
          refine (hp.out _).mono ?_
          rintro e w3 ⟨rfl, hb⟩
          have HC := hide (HA.out.trans (hb.mono HA.out.size))
          clear hb
          go_wp2_with fail
          go_roundw
          case rel => exact ⟨k + 1, by omega, by go_num, by rw [HNXK.out, HR2.out], by rw [HNXK.out, HR2.out, ← hadd.out], HC.out⟩
          case measure => simp [intOf]; omega
      · have HR := hide (show wrF l false ⟨1, wd, n, s⟩ = (wrL l (putS n 8) false (fitsB n.toNat 8), wrB false (fitsB n.toNat 8)) from rfl)
        have hf := fun W => rfits_any n n0 hn64 8 W
        have hp := hide (fun W => rput_all n n0 n1 8 W)
        have hps : (bs (putS n 8)).size ≤ 8 := by rw [bs_size]; exact putS_le n 8
        have hadd := hide (bs_append l (putS n 8))
        rw [HR.out] at hbad
        generalize hL : bs l = L at *
        generalize hPS : bs (putS n 8) = PS at *
        have HPS := hide hPS
        have HL := hide hL
        clear hPS hL
        cases hfit : fitsB n.toNat 8
        · rw [hfit] at hf hbad
          have HF2 := hide hf
          have hWF : WF.2 = true := hbad rfl
          have HWF := hide hWF
          clear hf hbad hWF
          go_wp2_with fail
          refine (HF2.out _).mono ?_
          rintro e w2 ⟨rfl, rfl⟩
          go_wp2
          go_ret2
          exact ⟨by rw [HS.out, if_pos HWF.out, HWF.out]; rfl, HA.out⟩
        · rw [hfit] at hf HR
          have HF2 := hide hf
          have HR2 := hide (show wrF l false ⟨1, wd, n, s⟩ = (l ++ putS n 8, false) by rw [HR.out]; rfl)
          clear hf hbad HR hfit
          go_wp2_with fail
          refine (HF2.out _).mono ?_
          rintro e w2 ⟨rfl, rfl⟩
          go_wp2_with fail
          refine (hp.out _).mono ?_
          rintro e w3 ⟨rfl, hb⟩
          have HC := hide (HA.out.trans (hb.mono HA.out.size))
          clear hb
          go_wp2_with fail
          go_roundw
          case rel => exact ⟨k + 1, by omega, by go_num, by rw [HNXK.out, HR2.out], by rw [HNXK.out, HR2.out, ← hadd.out], HC.out⟩
          case measure => simp [intOf]; omega
      · have HR := hide (show wrF l false ⟨2, wd, n, s⟩ = (wrL l (putS (s.size : Int) 1 ++ s.data.toList) false (decide (s.size ≤ 255)), wrB false (decide (s.size ≤ 255))) from rfl)
        rw [HR.out] at hbad
        by_cases hsz : 255 < s.size
        · have hWF : WF.2 = true := hbad (by simp [wrB]; omega)
          have HWF := hide hWF
          clear hbad hWF
          go_wp2_with fail
          go_ret2
          exact ⟨by rw [HS.out, if_pos HWF.out, HWF.out]; rfl, HA.out⟩
        · have hsz2 : s.size ≤ 255 := by omega
          have HR2 := hide (show wrF l false ⟨2, wd, n, s⟩ = (l ++ ([UInt8.ofNat s.size] ++ s.data.toList), false) by rw [HR.out, putS_one s.size hsz2, decide_eq_true hsz2]; rfl)
          have hob := one_byte' (wr.alloc (.cells #[.int .i64 2, .int .i64 wd, .int .u64 n, .string s] 92)) s.size hsz2
          rw [show (wr.alloc (.cells #[.int .i64 2, .int .i64 wd, .int .u64 n, .string s] 92)).heap.size = wr.heap.size + 1 by simp] at hob
          have hadd := hide (show bs l ++ bs [UInt8.ofNat s.size] ++ s = bs (l ++ ([UInt8.ofNat s.size] ++ s.data.toList)) by
            have e : bs l ++ bs [UInt8.ofNat s.size] ++ s = bs l ++ bs [UInt8.ofNat s.size] ++ bs s.data.toList := by rw [bs_of]
            rw [e, bs_append, bs_append, List.append_assoc])
          have hones : (bs [UInt8.ofNat s.size]).size ≤ 1 := by rw [bs_size]; simp
          generalize hL : bs l = L at *
          generalize hO : bs [UInt8.ofNat s.size] = O at *
          clear hbad HR hL hO
          go_wp2_with fail
          go_roundw
          case rel => exact ⟨k + 1, by omega, by go_num, by rw [HNXK.out, HR2.out], by rw [HNXK.out, HR2.out, ← hadd.out], HA.out.alloc HA.out.size _⟩
          case measure => simp [intOf]; omega
    · obtain rfl : k = m.length := by omega
      rw [HFIN.out] at hz2
      have HZ2 := hide hz2
      clear hB hz2
      go_wp2_with fail
      go_ret2
      exact ⟨by rw [HS.out, if_neg (by rw [HZ2.out]; simp), HZ2.out, HFIN.out]; rfl, HB.out⟩
end Go.Proofs.Ytbnbfnlfgmlcgaa
