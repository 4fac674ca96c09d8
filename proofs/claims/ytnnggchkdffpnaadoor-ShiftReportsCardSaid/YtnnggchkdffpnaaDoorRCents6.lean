/-
  Layer 3: the document's digits and Text by contract.
-/
import Derived.Test.YtnnggchkdffpnaaDoorMCents
--import Derived.Test.Zdbg
namespace Go.Proofs.YtnnggchkdffpnaaDoor
set_option linter.unusedSimpArgs false
set_option linter.unusedVariables false
open Go.RowKit Go.WideShapes Go.ChangeShapes Go.ChangeAt

theorem conv_one (w : World) (c : UInt8) : (convert 78 9 (.slice (some ⟨w.heap.size, 0, none⟩) 1 1)).run Tryd.prog (w.alloc (.cells #[.int .u8 (c.toNat : Int)] 5)) = .ok (.string (sb [c])) (w.alloc (.cells #[.int .u8 (c.toNat : Int)] 5)) := by
  have h := run_convert_bytes_back (P := Tryd.prog) (w.alloc (.cells #[.int .u8 (c.toNat : Int)] 5)) 78 9 5 ⟨w.heap.size, 0, none⟩ 1 [c] Tryd.underlying78 Tryd.underlying5 Tryd.underlying9 (fun j hj => by
    have hj0 : j = 0 := by simpa using hj
    subst hj0
    rw [Lib.add_plain, World.cell?_alloc_new]
    rfl)
  exact h
theorem ret_s {a b : ByteArray} (h : a = b) : Ending.returned (.string a) = .returned (.string b) := by rw [h]
def DigIs (N least : Nat) (w : World) (e : Ending) (w' : World) : Prop := (∃ k, e = .returned (.string (sb (digs N k))) ∧ least ≤ k ∧ N / 10 ^ k = 0 ∧ (k ≤ least ∨ 0 < N / 10 ^ (k - 1))) ∧ RowKit.Below w.heap.size w w'
set_option maxRecDepth 100000 in
set_option maxHeartbeats 400000 in
theorem rdigits_any (N least : Nat) (hN : N ≤ 9223372036854775807) (hl : 1 ≤ least) (hl2 : least ≤ 2) (w : World) :
    Calls Tryd.prog 25 #[.int .i64 (N : Int), .int .i64 (least : Int)] w (DigIs N least w) := by
  have HL := hide hl
  go_enter Tryd.func25, Tryd.ntmps25
  go_wp2_with fail
  go_loopw [0, 5] (fun n s W => ∃ k : Nat, k ≤ 20 ∧ n = .int .i64 ((N / 10 ^ k : Nat) : Int) ∧ s = .string (sb (digs N k)) ∧ (k ≤ least ∨ 0 < N / 10 ^ (k - 1)) ∧ RowKit.Below w.heap.size w W) (fun _ s _ => 20 - (match s with | .string t => t.size | _ => 0))
  case atStart => exact ⟨0, by omega, by simp, rfl, .inl (by omega), RowKit.Below.refl _ _⟩
  case round =>
    obtain ⟨k, hk, rfl, rfl, hgo, hB⟩ := hrel
    have HB := hide hB
    have HGO := hide hgo
    have hsz : (sb (digs N k)).size = k := by rw [sb_size, digs_len]
    have HSZ := hide hsz
    have hm20 : 0 < N / 10 ^ k → k < 19 := fun h => by
      rcases Nat.lt_or_ge k 19 with h1 | h1
      · exact h1
      · have h2 : 10 ^ 19 ≤ 10 ^ k := Nat.pow_le_pow_right (by omega) h1
        have h3 : N / 10 ^ k = 0 := Nat.div_eq_of_lt (Nat.lt_of_lt_of_le (by omega) h2)
        omega
    have HNX := hide (show N / 10 ^ (k + 1) = N / 10 ^ k / 10 by rw [Nat.pow_succ, Nat.div_div_eq_div_mul])
    have HHD := hide (digs_head k N)
    have hmN : N / 10 ^ k ≤ N := Nat.div_le_self _ _
    clear hB hgo
    generalize hm : N / 10 ^ k = m at *
    have HM := hide hm
    have HMM := hide (fun h : m = 0 => hm.trans h)
    clear hm
    obtain ⟨dd, hdd⟩ : ∃ dd, m % 10 = dd := ⟨_, rfl⟩
    obtain ⟨mq, hmq⟩ : ∃ mq, m / 10 = mq := ⟨_, rfl⟩
    have hmod : (m : Int) % 10 = (dd : Int) := by omega
    have hquo : (m : Int) / 10 = (mq : Int) := by omega
    have hd10 : dd < 10 := by omega
    have hwu : IntKind.u8.wrap (48 + (dd : Int)) = ((UInt8.ofNat (48 + dd)).toNat : Int) := by rw [IntKind.wrap_u8, dgt _ hd10]; omega
    rw [hdd] at HHD
    rw [hmq] at HNX
    have hm0 : (0 : Int) ≤ (m : Int) := by omega
    by_cases hc : 0 < m ∨ k < least
    · have hk2 : k < 20 := by
        rcases hc with h | h
        · have := hm20 h; omega
        · omega
      have HC := hide hc
      have HCV := hide (fun W => conv_one W (UInt8.ofNat (48 + dd)))
      have hcv := HCV.out wr
      have BN := hide (HB.out.alloc HB.out.size (.cells #[.int .u8 ((UInt8.ofNat (48 + dd)).toNat : Int)] 5))
      have HAP := hide (show sb [UInt8.ofNat (48 + dd)] ++ sb (digs N k) = sb (digs N (k + 1)) by rw [sb_append, HHD.out]; rfl)
      have HS1 := hide (show (sb (digs N (k + 1))).size = k + 1 by rw [sb_size, digs_len])
      have HS0 := hide (show (sb [UInt8.ofNat (48 + dd)]).size = 1 from rfl)
      have hs0 : (sb [UInt8.ofNat (48 + dd)]).size = 1 := HS0.out
      clear hsz hdd hmq
      have hsz := HSZ.out
      generalize (UInt8.ofNat (48 + dd)).toNat = cn at *
      generalize sb [UInt8.ofNat (48 + dd)] = c1 at *
      generalize sb (digs N k) = s0 at *
      by_cases h0 : 0 < m
      all_goals
        go_wp2_with fail
        go_roundw
        case rel => exact ⟨k + 1, by omega, by rw [HNX.out], by rw [HAP.out], HC.out.elim (fun h => .inr (by show 0 < N / 10 ^ k; rw [HM.out]; exact h)) (fun h => .inl h), BN.out⟩
        case measure =>
          show 20 - (c1 ++ s0).size < 20 - s0.size
          rw [HAP.out, HS1.out, HSZ.out]
          omega
    · have h1 : m = 0 := by omega
      have h2 : ¬ k < least := by omega
      have HM0 := hide (HMM.out h1)
      subst h1
      go_wp2_with fail
      go_ret
      exact ⟨⟨k, ret_s rfl, by omega, HM0.out, HGO.out⟩, HB.out⟩

theorem quo_cents (c : Int) (hc : inR c) : c.tdiv 100 = (if c < 0 then -((c.natAbs / 100 : Nat) : Int) else ((c.natAbs / 100 : Nat) : Int)) ∧ c.tmod 100 = (if c < 0 then -((c.natAbs % 100 : Nat) : Int) else ((c.natAbs % 100 : Nat) : Int)) := by
  unfold inR at hc
  by_cases h : c < 0
  · rw [if_pos h, if_pos h]
    have e : c = -((c.natAbs : Nat) : Int) := by omega
    generalize c.natAbs = A at *
    subst e
    rw [Int.neg_tdiv, Int.neg_tmod, Int.tdiv_eq_ediv_of_nonneg (by omega), Int.tmod_eq_emod_of_nonneg (by omega)]
    constructor <;> omega
  · rw [if_neg h, if_neg h]
    have e : c = ((c.natAbs : Nat) : Int) := by omega
    generalize c.natAbs = A at *
    subst e
    rw [Int.tdiv_eq_ediv_of_nonneg (by omega), Int.tmod_eq_emod_of_nonneg (by omega)]
    constructor <;> omega
theorem rdig1_any (N : Nat) (hN : N ≤ 9223372036854775807) (w : World) :
    Calls Tryd.prog 25 #[.int .i64 (N : Int), .int .i64 1] w fun e w' => e = .returned (.string (sb (Lib.decDigits N))) ∧ RowKit.Below w.heap.size w w' := by
  refine (rdigits_any N 1 hN (by omega) (by omega) w).mono ?_
  rintro e w' ⟨⟨k, rfl, h1, h2, h3⟩, hb⟩
  refine ⟨ret_s ?_, hb⟩
  rw [digs_dec k N h1 h2 (h3.imp (fun h => by omega) id)]
theorem rdig2_any (A : Nat) (w : World) :
    Calls Tryd.prog 25 #[.int .i64 ((A % 100 : Nat) : Int), .int .i64 2] w fun e w' => e = .returned (.string (sb (cRest A))) ∧ RowKit.Below w.heap.size w w' := by
  refine (rdigits_any (A % 100) 2 (by omega) (by omega) (by omega) w).mono ?_
  rintro e w' ⟨⟨k, rfl, h1, h2, h3⟩, hb⟩
  refine ⟨ret_s ?_, hb⟩
  have hk : k = 2 := by
    rcases h3 with h3 | h3
    · omega
    · rcases Nat.lt_or_ge k 3 with h4 | h4
      · omega
      · have h5 : 10 ^ 2 ≤ 10 ^ (k - 1) := Nat.pow_le_pow_right (by omega) (by omega)
        have h6 : A % 100 / 10 ^ (k - 1) = 0 := Nat.div_eq_of_lt (Nat.lt_of_lt_of_le (by omega) h5)
        omega
  rw [hk, digs_two]
set_option maxRecDepth 100000 in
set_option maxHeartbeats 400000 in
theorem rtext_any (c : Int) (hc : inR c) (w : World) :
    Calls Tryd.prog 14 #[.int .i64 c] w fun e w' => e = .returned (.string (sb (cText c))) ∧ RowKit.Below w.heap.size w w' := by
  obtain ⟨e1, e2⟩ := quo_cents c hc
  have hA : c.natAbs ≤ 9223372036854775808 := by unfold inR at hc; omega
  have H1 := hide (fun W => rdig1_any (c.natAbs / 100) (by omega) W)
  have H2 := hide (fun W => rdig2_any c.natAbs W)
  have HE := hide (cText_eq c)
  have hl1 := dec_len 16 (c.natAbs / 100) (by omega)
  have hl2 := cRest_len c.natAbs
  rw [← sb_size] at hl1 hl2
  have HSG := hide (show sb (sgnL c) = if c < 0 then sb [45] else sb [] by unfold sgnL; split <;> rfl)
  have HAP := hide (show sb (cText c) = ((sb (sgnL c) ++ sb (Lib.decDigits (c.natAbs / 100))) ++ sb [46]) ++ sb (cRest c.natAbs) by rw [HE.out, sb_append, sb_append, sb_append]; simp)
  have hx1 : c.natAbs / 100 ≤ 92233720368547758 := by omega
  have hx2 : c.natAbs % 100 < 100 := by omega
  generalize sb (cText c) = T at *
  generalize sb (Lib.decDigits (c.natAbs / 100)) = D at *
  generalize sb (cRest c.natAbs) = R at *
  generalize c.natAbs / 100 = x at *
  generalize c.natAbs % 100 = y at *
  have hs1 : ¬ 9223372036854775807 < D.size := by omega
  have hs2 : ¬ 9223372036854775807 < D.size + 1 := by omega
  have hs3 : ¬ 9223372036854775807 < D.size + 1 + R.size := by omega
  have hs4 : ¬ 9223372036854775807 < 1 + D.size := by omega
  have hs5 : ¬ 9223372036854775807 < 1 + D.size + 1 := by omega
  have hs6 : ¬ 9223372036854775807 < 1 + D.size + 1 + R.size := by omega
  clear hc hA HE hl1 hl2
  by_cases h : c < 0
  · rw [if_pos h] at e1 e2
    have hse := HSG.out
    rw [if_pos h] at hse
    have hap := HAP.out
    rw [hse] at hap
    have HAP2 := hide hap
    clear HSG HAP hse hap
    have hn1 : wrap64 (x : Int) = (x : Int) := by unfold wrap64; omega
    have hn2 : wrap64 (y : Int) = (y : Int) := by unfold wrap64; omega
    go_enter Tryd.func14, Tryd.ntmps14
    go_wp2_with fail
    refine (H1.out _).mono ?_
    rintro e w1 ⟨rfl, hb⟩
    have B1 := hide hb
    clear hb
    go_wp2_with fail
    refine (H2.out _).mono ?_
    rintro e w2 ⟨rfl, hb⟩
    have B2 := hide (below_trans B1.out hb)
    clear hb
    go_wp2_with fail
    go_ret
    exact ⟨ret_s HAP2.out.symm, B2.out⟩
  · rw [if_neg h] at e1 e2
    have hse := HSG.out
    rw [if_neg h] at hse
    have hap := HAP.out
    rw [hse] at hap
    have HAP2 := hide hap
    clear HSG HAP hse hap
    go_enter Tryd.func14, Tryd.ntmps14
    go_wp2_with fail
    refine (H1.out _).mono ?_
    rintro e w1 ⟨rfl, hb⟩
    have B1 := hide hb
    clear hb
    go_wp2_with fail
    refine (H2.out _).mono ?_
    rintro e w2 ⟨rfl, hb⟩
    have B2 := hide (below_trans B1.out hb)
    clear hb
    go_wp2_with fail
    go_ret
    exact ⟨ret_s HAP2.out.symm, B2.out⟩
end Go.Proofs.YtnnggchkdffpnaaDoor
