/-
  Layer 28: replies of other kinds; what is told of a reply's bytes.
-/
import Derived.Test.YtkbikflincjhhaaReqQ

namespace Go.Proofs.Ytkbikflincjhhaa
set_option linter.unusedSimpArgs false
set_option linter.unusedVariables false
open Go.RowKit Go.WideShapes Go.ChangeShapes Go.ChangeAt Go.Deep
theorem outr_yes {ok : Bool} {T : List UInt8} (h : ok = true) : outS ok T = bs T ∧ outE ok = 0 := by subst h; exact ⟨rfl, rfl⟩
theorem outr_no {ok : Bool} {T : List UInt8} (h : ok = false) : outS ok T = ⟨#[]⟩ ∧ outE ok = 2 := by subst h; exact ⟨rfl, rfl⟩
theorem parR_ok (k : Nat) (hk : 1 ≤ k ∧ k ≤ 14) (l : List UInt8) (h : parO k l = true) : RpOk (parR k l) := by
  unfold parO at h
  rw [Bool.and_eq_true, decide_eq_true_eq] at h
  obtain ⟨h1, h2⟩ := h
  have hw := fun n : Nat => show inR (wrap64 (n : Int)) from by unfold inR wrap64; omega
  have hi : ∀ n : Nat, n < 1099511627776 → inR (n : Int) := fun n hn => by unfold inR; omega
  have z := rpz
  unfold parR
  by_cases h0 : kd l = 0
  · rw [if_pos h0] at h2 ⊢
    generalize l.drop 1 = l at *
    have a4 := fl_lt l 0 4
    have b4 := fl_lt l 1 4
    have c4 := fl_lt l 5 4
    have d4 := fl_lt l 4 4
    have a1 := fl_lt l 0 1
    have a5 := fl_lt l 4 5
    have hc : Plain k ∨ k = 3 ∨ k = 10 ∨ k = 11 ∨ k = 12 ∨ k = 13 ∨ k = 14 := by unfold Plain; omega
    rcases hc with hp | rfl | rfl | rfl | rfl | rfl | rfl
    · rw [(repD_plain hp l).2]; exact { z with num := hi _ (by omega) }
    · show RpOk { totR l 4 with num := fl l 0 4 }
      exact { z with num := hi _ (by omega), c := hi _ (by omega), s := hw _, v := hw _, r := hw _, i := hw _, o := hw _ }
    · show RpOk { rp0 with a0 := wrap64 (fl l 0 8) }
      exact { z with a0 := hw _ }
    · rw [repD_tx, decide_eq_true_eq] at h2
      show RpOk { rp0 with tk := fl l 0 1, tsh := fl l 1 4, tr := fl l 5 4, ta := wrap64 (fl l 9 8), tl := wrap64 (fl l 17 8), tv := decide (fl l 25 1 = 1), L := readL (bs (l.drop 26)) (l.getD 26 0).toNat }
      exact { z with tk := ⟨by dsimp only; omega, by dsimp only; omega⟩, tsh := hi _ (by omega), tr := hi _ (by omega), ta := hw _, tl := hw _, L := fun x hx => (ln_code _ _ x hx).2, few := by dsimp only; rw [readL_len]; omega }
    · show RpOk (totR l 0)
      exact { z with c := hi _ (by omega), s := hw _, v := hw _, r := hw _, i := hw _, o := hw _ }
    · show RpOk { rp0 with a0 := wrap64 (fl l 0 8), a1 := wrap64 (fl l 8 8) }
      exact { z with a0 := hw _, a1 := hw _ }
    · show RpOk { rp0 with num := fl l 0 4, tn := fl l 4 5, rd := decide (fl l 9 1 = 1) }
      exact { z with num := hi _ (by omega), tn := hi _ (by omega) }
  · rw [if_neg h0]
    have := kd_lt l
    exact { z with err := hi _ (by omega) }
theorem repM_ok {y : InP} (hy : InPOk y) {L : List LnM} (hok : ∀ x ∈ L, LnOk x) {n : Nat} (hn : n ≤ 10) : RpOk (repM y L n) := by
  obtain ⟨h1, h2, h3, h4, h5, h6, h7, h8, h9, h10, h11, h12⟩ := hy
  exact ⟨h1, h2, h8, h3, h4, h5, h6, h7, h9, tk_range _, h11, h12, h5, h6, fun x hx => hok x (List.mem_of_mem_take hx), by show (L.take n).length ≤ 20; rw [List.length_take]; omega, h3, h4⟩
set_option maxRecDepth 100000 in
theorem renc_bad (k : Int) (hk : 0 ≤ k ∧ k ≤ 255) (hb : k < 1 ∨ 14 < k) (x : RpM) (lv : Value) (w : World) :
    Calls Try.prog 15 #[.agg (rpC x lv), .int .u8 k] w fun e w' => e = .returned (.string ⟨#[]⟩) ∧ Below w.heap.size w w' := by
  have hal := (Below.refl w.heap.size w).alloc (Nat.le_refl _) (.cells (rpC x lv) 71)
  generalize rpC x lv = C at *
  have BL := hide hal
  have HRT := hide (fun W => right_any k W)
  rw [show rtB k = false from decide_eq_false (by omega)] at HRT
  clear hal
  go_enter Try.func15, Try.ntmps15
  go_upto_region 1 with (fail)
  generalize w.alloc (.cells C 71) = w1 at *
  go_wp2_with fail
  refine (HRT.out _).mono ?_
  rintro e w2 ⟨rfl, rfl⟩
  go_wp2_with fail
  go_ret
  exact ⟨rfl, BL.out⟩
set_option maxRecDepth 100000 in
theorem par_bad (k : Int) (hk : 0 ≤ k ∧ k ≤ 255) (hb : k < 1 ∨ 14 < k) (s : ByteArray) (w : World) :
    Calls Try.prog 16 #[.int .u8 k, .string s] w fun e w' => e = .returned (.tuple #[.agg (rpC rp0 (.slice none 0 0)), .int .i64 2]) ∧ Below w.heap.size w w' := by
  have hal := (Below.refl w.heap.size w).alloc (Nat.le_refl _) (.cells #[.int .i64 0, .int .i64 0, .int .i64 0, .int .i64 0, .int .i64 0, .int .i64 0, .int .i64 0, .int .i64 0, .int .i64 0, .int .u8 0, .int .i64 0, .int .i64 0, .int .i64 0, .int .i64 0, .bool false, .slice none 0 0, .int .i64 0, .int .i64 0, .bool false] 71)
  have XA := hide (heap_new w (.cells #[.int .i64 0, .int .i64 0, .int .i64 0, .int .i64 0, .int .i64 0, .int .i64 0, .int .i64 0, .int .i64 0, .int .i64 0, .int .u8 0, .int .i64 0, .int .i64 0, .int .i64 0, .int .i64 0, .bool false, .slice none 0 0, .int .i64 0, .int .i64 0, .bool false] 71))
  have BL := hide hal
  have HRT := hide (fun W => right_any k W)
  rw [show rtB k = false from decide_eq_false (by omega)] at HRT
  clear hal
  go_enter Try.func16, Try.ntmps16
  go_upto_region 1 with (fail)
  generalize w.alloc (.cells #[.int .i64 0, .int .i64 0, .int .i64 0, .int .i64 0, .int .i64 0, .int .i64 0, .int .i64 0, .int .i64 0, .int .i64 0, .int .u8 0, .int .i64 0, .int .i64 0, .int .i64 0, .int .i64 0, .bool false, .slice none 0 0, .int .i64 0, .int .i64 0, .bool false] 71) = w1 at *
  generalize hra : w.heap.size = ra at XA ⊢
  have HRA := hide hra
  clear hra
  go_wp2_with fail
  refine (HRT.out _).mono ?_
  rintro e w2 ⟨rfl, rfl⟩
  have RS : w1.heap[ra]? = some (.cells (rpC rp0 (.slice none 0 0)) 71 (0, 0)) := XA.out
  go_wp2_with (refine wpList_rowStore rfl 71 (.tmp 4) (.tmp 12) rfl ra rfl (rpC rp0 (.slice none 0 0)) rfl (rpC rp0 (.slice none 0 0)) RS (rpC_info _ _) rfl (rpC_one _ _ _ _) ?_)
  (try simp only [Exit.inBlock, Exit.then])
  refine bodyPost_ret (res_cell2 (P := Try.prog) rfl _ _ ra 71 (rpC rp0 (.slice none 0 0)) (0, 0) _ rfl (setRow_self _ _ _ _ _ _ RS) Try.underlying71 rfl (rpC_info _ _)) rfl ?_
  exact ⟨rfl, setRow_low (HRA.out ▸ BL.out) (by rw [HRA.out]; exact Nat.le_refl _) _⟩
/-- an error stands alone -/
def AloneIs (er : Int) (t : ByteArray) : Prop := ((er < 0 ∨ 255 < er) ∧ t = ⟨#[]⟩) ∨ er = 0 ∨ ((1 ≤ er ∧ er ≤ 255) ∧ t.size = 1 ∧ ∀ h : 0 < t.size, ((t[0]'h).toNat : Int) = er)
theorem rept_len (k : Nat) (x : RpM) : 1 ≤ (rencT k x).length := by
  unfold rencT
  rw [List.length_append, putL_length]
  omega
theorem alone (k : Nat) (x : RpM) (hx : inR x.err) : AloneIs x.err (outS (rencOk k x) (rencT k x)) := by
  unfold AloneIs
  by_cases h0 : x.err = 0
  · exact Or.inr (Or.inl h0)
  · have hk : rencOk k x = fit1 x.err := if_neg h0
    by_cases h1 : 0 ≤ x.err ∧ x.err ≤ 255
    · refine Or.inr (Or.inr ⟨by omega, ?_⟩)
      have hf : fit1 x.err = true := decide_eq_true h1
      have hT : rencT k x = [UInt8.ofNat x.err.toNat] := by
        unfold rencT
        rw [if_neg h0, List.append_nil]
        have hw : wu x.err = x.err.toNat := by unfold wu; rw [IntKind.wrap_u64]; omega
        rw [hw]
        have : putL x.err.toNat 1 = [UInt8.ofNat x.err.toNat] := by
          simp [putL]
          rw [Nat.mod_eq_of_lt (by omega)]
        exact this
      rw [(outr_yes (T := rencT k x) (hk.trans hf)).1, hT]
      refine ⟨rfl, fun h => ?_⟩
      show ((UInt8.ofNat x.err.toNat).toNat : Int) = x.err
      rw [UInt8.toNat_ofNat']
      omega
    · refine Or.inl ⟨by omega, ?_⟩
      have hf : fit1 x.err = false := decide_eq_false h1
      rw [(outr_no (T := rencT k x) (hk.trans hf)).1]
/-- what is written of a reply is nothing, or it is told again -/
theorem told_again (k : Nat) (hk : 1 ≤ k ∧ k ≤ 14) (x : RpM) : outS (rencOk k x) (rencT k x) = ⟨#[]⟩ ∨ ∃ T : List UInt8, 1 ≤ T.length ∧ outS (rencOk k x) (rencT k x) = bs T ∧ parO k T = true ∧ (parR k T).err = x.err ∧ rencOk k (parR k T) = true ∧ rencT k (parR k T) = T ∧ ¬ parO k (T ++ [120]) = true := by
  by_cases h : rencOk k x = true
  · obtain ⟨h1, h2⟩ := renc_told k hk x h
    obtain ⟨h3, h4⟩ := par_enc k hk _ h1
    exact Or.inr ⟨rencT k x, rept_len k x, (outr_yes (T := rencT k x) h).1, h1, h2, h3, h4, fun h' => absurd (par_prefix k hk h1 h') (by simp)⟩
  · exact Or.inl (outr_no (T := rencT k x) (by simpa using h)).1
end Go.Proofs.Ytkbikflincjhhaa
