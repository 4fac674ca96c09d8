/-
  Layer 15, the document's calls: Cold.
-/
import Derived.Test.YtpgogdnjddeagaaVic8
--import Derived.Test.Zdbg
namespace Go.Proofs.Ytpgogdnjddeagaa
set_option linter.unusedSimpArgs false
set_option linter.unusedVariables false
open Go.RowKit Go.WideShapes Go.ChangeShapes Go.ChangeAt Go.Deep W

theorem goodB_at (L : List (Int × Int)) (hL : StOk L) (skip : List Int) (k : Nat) (hk : k < L.length) : goodB L skip (k : Int) = (!decide ((k : Int) ∈ skip) && decide ((L.getD k (0, 0)).1 ≠ 3)) := by
  unfold goodB
  rw [fstZ_in L k hk]
  have h := (hL k hk).1
  have h2 : (L.getD k (0, 0)).1 = 1 ∨ (L.getD k (0, 0)).1 = 2 ∨ (L.getD k (0, 0)).1 = 3 := by omega
  rcases h2 with e | e | e <;> rw [e] <;> cases decide ((k : Int) ∈ skip) <;> rfl
def coldR (L : List (Int × Int)) (level : Int) (lo hi : Int) : Int × Bool :=
  if level < 1 ∨ lo = -1 ∨ fstZ L lo ≠ 2 ∨ sndZ L hi - sndZ L lo < level then (0, false) else (lo, true)
set_option maxRecDepth 100000 in
set_option maxHeartbeats 4000000 in
theorem rcold_any (r s t : Nat) (L : List (Int × Int)) (hL : StOk L) (hl : L.length ≤ 256) (level : Int) (sv : Value) (skip : List Int) (hs : skip.length ≤ maxLen) (w : World) (h : RPAt w r s t L) (hsk : NumsAt w .i64 sv skip) :
    Calls Try.prog 11 #[.pointer (some ⟨r, 0, none⟩), .int .i64 level, sv] w fun e w' =>
      e = .returned (.tuple #[.int .i64 (coldR L level (firstK (goodB L skip) (lessB L) L.length) (firstK (goodB L skip) (moreB L) L.length)).1, .bool (coldR L level (firstK (goodB L skip) (lessB L) L.length) (firstK (goodB L skip) (moreB L) L.length)).2]) ∧ Below w.heap.size w w' := by
  obtain ⟨a, cap, rfl, -, -⟩ := nums_at hsk
  have H0 := hide h
  have SK := hide hsk
  have HIN := hide (fun x W hW => in_any skip (.slice a skip.length cap) x W hW hs)
  have HLO := hide hL
  have HBD1 := hide (fun k => firstK_bd (goodB L skip) (lessB L) k)
  have HBD2 := hide (fun k => firstK_bd (goodB L skip) (moreB L) k)
  have HF1 := hide (fun k => show firstK (goodB L skip) (lessB L) (k + 1) = if goodB L skip k = true ∧ (firstK (goodB L skip) (lessB L) k = -1 ∨ lessB L k (firstK (goodB L skip) (lessB L) k) = true) then (k : Int) else firstK (goodB L skip) (lessB L) k from rfl)
  have HF2 := hide (fun k => show firstK (goodB L skip) (moreB L) (k + 1) = if goodB L skip k = true ∧ (firstK (goodB L skip) (moreB L) k = -1 ∨ moreB L k (firstK (goodB L skip) (moreB L) k) = true) then (k : Int) else firstK (goodB L skip) (moreB L) k from rfl)
  have hz1 : firstK (goodB L skip) (lessB L) 0 = -1 := rfl
  have hz2 : firstK (goodB L skip) (moreB L) 0 = -1 := rfl
  generalize firstK (goodB L skip) (lessB L) = f1 at *
  generalize firstK (goodB L skip) (moreB L) = f2 at *
  generalize hn : L.length = n at *
  have HN := hide hn.symm
  obtain ⟨cr, hcr⟩ : ∃ cr, coldR L level (f1 n) (f2 n) = cr := ⟨_, rfl⟩
  rw [hcr]
  have HZZ := hide (show cr = if level < 1 ∨ f1 n = -1 ∨ fstZ L (f1 n) ≠ 2 ∨ sndZ L (f2 n) - sndZ L (f1 n) < level then (0, false) else (f1 n, true) from hcr.symm)
  clear h hsk hn hL hcr
  go_enter Try.func11, Try.ntmps11
  go_wp2_with fail
  go_loopw [8, 9, 10] (fun z y i W => ∃ k : Nat, k ≤ n ∧ i = .int .i64 k ∧ z = .int .i64 (f1 k) ∧ y = .int .i64 (f2 k) ∧ (f1 k = -1 ↔ f2 k = -1) ∧ Below w.heap.size w W) (fun _ _ i _ => n - (intOf i).toNat)
  case atStart => exact ⟨0, by omega, rfl, by rw [hz1], by rw [hz2], by rw [hz1, hz2], Below.refl _ _⟩
  case round =>
    clear hz1 hz2
    obtain ⟨k, hk, rfl, rfl, rfl, hiff, hb⟩ := hrel
    have HIF := hide hiff
    have BK := hide hb
    have RK := hide (H0.out.below hb)
    have SKK := hide (SK.out.below hb)
    clear hb hiff
    obtain ⟨r0, r1⟩ := RK.out.cells
    rw [← HN.out] at r0 r1
    have hb1 := HBD1.out k
    have hb2 := HBD2.out k
    have HAT := hide (fun (z : Nat) (hz : z < n) => RK.out.at z (by rw [← HN.out]; exact hz))
    have HSN := hide (fun (z : Nat) (hz : z < n) => sndZ_in L z (by rw [← HN.out]; exact hz))
    by_cases hlt : k < n
    · obtain ⟨cs, ct, -, -⟩ := HAT.out k hlt
      have HF1k := hide (HF1.out k)
      have HF2k := hide (HF2.out k)
      rw [goodB_at L HLO.out skip k (by rw [← HN.out]; exact hlt)] at HF1k HF2k
      have HLE := hide (fun z : Int => show lessB L k z = decide (sndZ L k < sndZ L z) from rfl)
      have HMO := hide (fun z : Int => show moreB L k z = decide (sndZ L k > sndZ L z) from rfl)
      have HI := hide (HIN.out (k : Int) wr SKK.out)
      generalize f1 k = z1 at *
      generalize f2 k = z2 at *
      generalize hst : (L.getD k (0, 0)).1 = st at *
      have hyk : sndZ L k = (L.getD k (0, 0)).2 := HSN.out k hlt
      rw [hyk] at HLE HMO
      generalize (L.getD k (0, 0)).2 = u at *
      clear hst hyk
      by_cases hin : (k : Int) ∈ skip
      · rw [show decide ((k : Int) ∈ skip) = true from decide_eq_true hin] at HI HF1k HF2k
        clear hin
        rw [if_neg (fun h => by simp at h)] at HF1k HF2k
        go_wp2_with fail
        refine HI.out.mono ?_
        rintro e w1 ⟨rfl, rfl⟩
        go_wp2_with fail
        go_roundw
        case rel => exact ⟨k + 1, by omega, by go_num, by rw [HF1k.out], by rw [HF2k.out], by rw [HF1k.out, HF2k.out]; exact HIF.out, BK.out⟩
        case measure => simp [intOf]; omega
      · rw [show decide ((k : Int) ∈ skip) = false from decide_eq_false hin] at HI HF1k HF2k
        clear hin
        by_cases hst : st = 3
        · rw [if_neg (fun h => by simp [hst] at h)] at HF1k HF2k
          go_wp2_with fail
          refine HI.out.mono ?_
          rintro e w1 ⟨rfl, rfl⟩
          go_wp2_with fail
          go_roundw
          case rel => exact ⟨k + 1, by omega, by go_num, by rw [HF1k.out], by rw [HF2k.out], by rw [HF1k.out, HF2k.out]; exact HIF.out, BK.out⟩
          case measure => simp [intOf]; omega
        · have hst1 : (!false && decide (st ≠ 3)) = true := by simp [hst]
          rw [hst1] at HF1k HF2k
          clear hst1
          by_cases hz : z1 = -1
          · have hz2 := HIF.out.1 hz
            rw [if_pos ⟨rfl, .inl hz⟩] at HF1k
            rw [if_pos ⟨rfl, .inl hz2⟩] at HF2k
            subst hz
            subst hz2
            go_wp2_with fail
            refine HI.out.mono ?_
            rintro e w1 ⟨rfl, rfl⟩
            go_wp2
            go_quiet (fail)
            rename_i nq
            have BK2 := hide (BK.out.drewN nq)
            have r1' : (wr.drewN nq).cell? ⟨r, 1, none⟩ = _ := r1
            have ct' : (wr.drewN nq).cell? ⟨t, k, none⟩ = _ := ct
            generalize wr.drewN nq = wq at *
            go_wp2
            go_quiet (fail)
            go_wp2
            go_roundw
            case rel => exact ⟨k + 1, by omega, by go_num, by rw [HF1k.out], by rw [HF2k.out], by rw [HF1k.out, HF2k.out], BK2.out.drewN _⟩
            case measure => simp [intOf]; omega
          · have hz2 : z2 ≠ -1 := fun e => hz (HIF.out.2 e)
            obtain ⟨m1, rfl⟩ : ∃ m1 : Nat, (m1 : Int) = z1 := ⟨z1.toNat, by omega⟩
            obtain ⟨m2, rfl⟩ : ∃ m2 : Nat, (m2 : Int) = z2 := ⟨z2.toNat, by omega⟩
            have hm1 : m1 < n := by omega
            have hm2 : m2 < n := by omega
            have hd1 : decide ((m1 : Int) < 0) = false := decide_eq_false (by omega)
            have hd2 : decide ((m2 : Int) < 0) = false := decide_eq_false (by omega)
            obtain ⟨-, ct1, -, -⟩ := HAT.out m1 hm1
            obtain ⟨-, ct2, -, -⟩ := HAT.out m2 hm2
            rw [HLE.out, HSN.out m1 hm1] at HF1k
            rw [HMO.out, HSN.out m2 hm2] at HF2k
            generalize (L.getD m1 (0, 0)).2 = v1 at *
            generalize (L.getD m2 (0, 0)).2 = v2 at *
            have hkk : ¬ (k : Int) = -1 := by omega
            by_cases h1 : u < v1
            · by_cases h2 : u > v2
              · have he1 : decide (u < v1) = true := decide_eq_true h1
                have he2 : decide (u > v2) = true := decide_eq_true h2
                rw [if_pos ⟨rfl, .inr he1⟩] at HF1k
                rw [if_pos ⟨rfl, .inr he2⟩] at HF2k
                have HQ1 := hide hkk
                have HQ2 := hide hz
                have HQ3 := hide hz2
                clear hkk hz hz2
                go_wp2_with fail
                refine HI.out.mono ?_
                rintro e w1 ⟨rfl, rfl⟩
                go_wp2
                go_quiet (fail)
                rename_i nq
                have BK2 := hide (BK.out.drewN nq)
                have r1' : (wr.drewN nq).cell? ⟨r, 1, none⟩ = _ := r1
                have ct' : (wr.drewN nq).cell? ⟨t, k, none⟩ = _ := ct
                have ct2' : (wr.drewN nq).cell? ⟨t, m2, none⟩ = _ := ct2
                generalize wr.drewN nq = wq at *
                go_wp2
                go_quiet (fail)
                go_wp2
                have hkk := HQ1.out
                have hz := HQ2.out
                have hz2 := HQ3.out
                go_roundw
                case rel => exact ⟨k + 1, by omega, by go_num, by rw [HF1k.out], by rw [HF2k.out], by rw [HF1k.out, HF2k.out]; skip, BK2.out.drewN _⟩
                case measure => simp [intOf]; omega
              · have he1 : decide (u < v1) = true := decide_eq_true h1
                have he2 : decide (u > v2) = false := decide_eq_false h2
                rw [if_pos ⟨rfl, .inr he1⟩] at HF1k
                rw [if_neg (fun h => h.2.elim hz2 (by rw [he2]; decide))] at HF2k
                have HQ1 := hide hkk
                have HQ2 := hide hz
                have HQ3 := hide hz2
                clear hkk hz hz2
                go_wp2_with fail
                refine HI.out.mono ?_
                rintro e w1 ⟨rfl, rfl⟩
                go_wp2
                go_quiet (fail)
                rename_i nq
                have BK2 := hide (BK.out.drewN nq)
                have r1' : (wr.drewN nq).cell? ⟨r, 1, none⟩ = _ := r1
                have ct' : (wr.drewN nq).cell? ⟨t, k, none⟩ = _ := ct
                have ct2' : (wr.drewN nq).cell? ⟨t, m2, none⟩ = _ := ct2
                generalize wr.drewN nq = wq at *
                go_wp2
                go_quiet (fail)
                go_wp2
                have hkk := HQ1.out
                have hz := HQ2.out
                have hz2 := HQ3.out
                go_roundw
                case rel => exact ⟨k + 1, by omega, by go_num, by rw [HF1k.out], by rw [HF2k.out], by rw [HF1k.out, HF2k.out]; exact ⟨fun e => absurd e hkk, fun e => absurd e hz2⟩, BK2.out.drewN _⟩
                case measure => simp [intOf]; omega
            · by_cases h2 : u > v2
              · have he1 : decide (u < v1) = false := decide_eq_false h1
                have he2 : decide (u > v2) = true := decide_eq_true h2
                rw [if_neg (fun h => h.2.elim hz (by rw [he1]; decide))] at HF1k
                rw [if_pos ⟨rfl, .inr he2⟩] at HF2k
                have HQ1 := hide hkk
                have HQ2 := hide hz
                have HQ3 := hide hz2
                clear hkk hz hz2
                go_wp2_with fail
                refine HI.out.mono ?_
                rintro e w1 ⟨rfl, rfl⟩
                go_wp2
                go_quiet (fail)
                rename_i nq
                have BK2 := hide (BK.out.drewN nq)
                have r1' : (wr.drewN nq).cell? ⟨r, 1, none⟩ = _ := r1
                have ct' : (wr.drewN nq).cell? ⟨t, k, none⟩ = _ := ct
                have ct2' : (wr.drewN nq).cell? ⟨t, m2, none⟩ = _ := ct2
                generalize wr.drewN nq = wq at *
                go_wp2
                go_quiet (fail)
                go_wp2
                have hkk := HQ1.out
                have hz := HQ2.out
                have hz2 := HQ3.out
                go_roundw
                case rel => exact ⟨k + 1, by omega, by go_num, by rw [HF1k.out], by rw [HF2k.out], by rw [HF1k.out, HF2k.out]; exact ⟨fun e => absurd e hz, fun e => absurd e hkk⟩, BK2.out.drewN _⟩
                case measure => simp [intOf]; omega
              · have he1 : decide (u < v1) = false := decide_eq_false h1
                have he2 : decide (u > v2) = false := decide_eq_false h2
                rw [if_neg (fun h => h.2.elim hz (by rw [he1]; decide))] at HF1k
                rw [if_neg (fun h => h.2.elim hz2 (by rw [he2]; decide))] at HF2k
                have HQ1 := hide hkk
                have HQ2 := hide hz
                have HQ3 := hide hz2
                clear hkk hz hz2
                go_wp2_with fail
                refine HI.out.mono ?_
                rintro e w1 ⟨rfl, rfl⟩
                go_wp2
                go_quiet (fail)
                rename_i nq
                have BK2 := hide (BK.out.drewN nq)
                have r1' : (wr.drewN nq).cell? ⟨r, 1, none⟩ = _ := r1
                have ct' : (wr.drewN nq).cell? ⟨t, k, none⟩ = _ := ct
                have ct2' : (wr.drewN nq).cell? ⟨t, m2, none⟩ = _ := ct2
                generalize wr.drewN nq = wq at *
                go_wp2
                go_quiet (fail)
                go_wp2
                have hkk := HQ1.out
                have hz := HQ2.out
                have hz2 := HQ3.out
                go_roundw
                case rel => exact ⟨k + 1, by omega, by go_num, by rw [HF1k.out], by rw [HF2k.out], by rw [HF1k.out, HF2k.out]; exact HIF.out, BK2.out.drewN _⟩
                case measure => simp [intOf]; omega
    · obtain rfl : k = n := by omega
      have HS := HLO.out.snd
      have hs1 := HS (f1 k)
      have hs2 := HS (f2 k)
      have hfi := hide (fun (z : Nat) (hz : z < k) => fstZ_in L z (by rw [← HN.out]; exact hz))
      clear HS
      by_cases hz : f1 k = -1
      · rw [if_pos (.inr (.inl hz))] at HZZ
        have hd : decide (f1 k < 0) = true := decide_eq_true (by omega)
        have HQ := hide hz
        clear hz
        go_wp2
        go_quiet (fail)
        go_wp2
        go_ret2
        exact ⟨ret_ib (by rw [HZZ.out]) (by rw [HZZ.out]), BK.out.drewN _⟩
      · have hz2 : f2 k ≠ -1 := fun e => hz (HIF.out.2 e)
        generalize f1 k = z1 at *
        generalize f2 k = z2 at *
        obtain ⟨m1, rfl⟩ : ∃ m1 : Nat, (m1 : Int) = z1 := ⟨z1.toNat, by omega⟩
        obtain ⟨m2, rfl⟩ : ∃ m2 : Nat, (m2 : Int) = z2 := ⟨z2.toNat, by omega⟩
        have hm1 : m1 < k := by omega
        have hm2 : m2 < k := by omega
        have hd1 : decide ((m1 : Int) < 0) = false := decide_eq_false (by omega)
        obtain ⟨cs1, ct1, -, -⟩ := HAT.out m1 hm1
        obtain ⟨-, ct2, -, -⟩ := HAT.out m2 hm2
        have e1 := HSN.out m1 hm1
        have e2 := HSN.out m2 hm2
        have e3 := hfi.out m1 hm1
        rw [e1] at hs1
        rw [e2] at hs2
        rw [e1, e2, e3] at HZZ
        clear e1 e2 e3
        generalize (L.getD m1 (0, 0)).2 = v1 at *
        generalize (L.getD m2 (0, 0)).2 = v2 at *
        generalize (L.getD m1 (0, 0)).1 = st at *
        have hwv : IntKind.i64.wrap (v2 - v1) = v2 - v1 := by rw [IntKind.wrap_i64]; omega
        by_cases hlv : level < 1
        · have hd2 : decide (level < 1) = true := decide_eq_true hlv
          rw [if_pos (.inl hlv)] at HZZ
          clear hlv
          go_wp2
          go_quiet (fail)
          go_wp2
          go_ret2
          exact ⟨ret_ib (by rw [HZZ.out]) (by rw [HZZ.out]), BK.out.drewN _⟩
        · have hd2 : decide (level < 1) = false := decide_eq_false hlv
          by_cases hst : st = 2
          · subst hst
            by_cases hsb : v2 - v1 < level
            · have hd3 : decide (v2 - v1 < level) = true := decide_eq_true hsb
              rw [if_pos (.inr (.inr (.inr hsb)))] at HZZ
              clear hsb hlv
              go_wp2
              go_quiet (fail)
              go_wp2
              go_ret2
              exact ⟨ret_ib (by rw [HZZ.out]) (by rw [HZZ.out]), BK.out.drewN _⟩
            · have hd3 : decide (v2 - v1 < level) = false := decide_eq_false hsb
              rw [if_neg (by simp [hlv, hz, hsb])] at HZZ
              clear hsb hlv
              go_wp2
              go_quiet (fail)
              go_wp2
              go_ret2
              exact ⟨ret_ib (by rw [HZZ.out]) (by rw [HZZ.out]), BK.out.drewN _⟩
          · have hd3 : (st == 2) = false := by simp [hst]
            have hd4 : decide (st = 2) = false := decide_eq_false hst
            rw [if_pos (.inr (.inr (.inl hst)))] at HZZ
            clear hlv
            go_wp2
            go_quiet (fail)
            go_wp2
            go_ret2
            exact ⟨ret_ib (by rw [HZZ.out]) (by rw [HZZ.out]), BK.out.drewN _⟩
end Go.Proofs.Ytpgogdnjddeagaa
