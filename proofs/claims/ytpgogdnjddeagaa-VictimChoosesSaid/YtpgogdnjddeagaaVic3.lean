/-
  Layer 15, the program's calls: Choose, Cold, Short.
-/
import Derived.Test.YtpgogdnjddeagaaVic2
--import Derived.Test.Zdbg
namespace Go.Proofs.Ytpgogdnjddeagaa
set_option linter.unusedSimpArgs false
set_option linter.unusedVariables false
open Go.RowKit Go.WideShapes Go.ChangeShapes Go.ChangeAt Go.Deep W

def chooseK (L : List (Int × Int)) (S : Spots) (nb : Nat) (skip : List Int) : Int := firstK (usedB L skip) (aheadC L S nb) 256
def lowK (L : List (Int × Int)) (skip : List Int) : Int := firstK (goodB L skip) (lessB L) 256
def highK (L : List (Int × Int)) (skip : List Int) : Int := firstK (goodB L skip) (moreB L) 256
theorem firstK_256 (may : Int → Bool) (ahead : Int → Int → Bool) : -1 ≤ firstK may ahead 256 ∧ firstK may ahead 256 < 256 := firstK_bd may ahead 256
theorem ret_ib {a a' : Int} {b b' : Bool} (h1 : a' = a) (h2 : b' = b) : Ending.returned (.tuple #[.int .i64 a, .bool b]) = .returned (.tuple #[.int .i64 a', .bool b']) := by rw [h1, h2]
theorem enters_used : Enters 24 := enters Try.func24 (by kernel_rfl) rfl
theorem enters_ahead : Enters 27 := enters Try.func27 (by kernel_rfl) rfl
theorem enters_good : Enters 29 := enters Try.func29 (by kernel_rfl) rfl
theorem enters_less : Enters 30 := enters Try.func30 (by kernel_rfl) rfl
theorem enters_more : Enters 31 := enters Try.func31 (by kernel_rfl) rfl
theorem first_choose (pb p q mb m q' o l sb : Nat) (L : List (Int × Int)) (pg : Int) (nb : Nat) (S : Spots) (sv : Value) (skip : List Int) (hl : skip.length ≤ maxLen) (w : World) (hp : VicP w pb p q L) (hm : VicM w mb m q' o l pg nb S) (hs : VicS w sb sv skip) :
    Calls Try.prog 26 #[.func (.func 24) #[] #[.pointer (some ⟨pb, 0, none⟩), .pointer (some ⟨sb, 0, none⟩)], .func (.func 27) #[] #[.pointer (some ⟨mb, 0, none⟩), .pointer (some ⟨pb, 0, none⟩)]] w fun e w' => e = .returned (.int .i64 (chooseK L S nb skip)) ∧ Below w.heap.size w w' := by
  unfold chooseK
  exact first_any 24 27 enters_used enters_ahead (.pointer (some ⟨pb, 0, none⟩)) (.pointer (some ⟨sb, 0, none⟩)) #[.pointer (some ⟨mb, 0, none⟩), .pointer (some ⟨pb, 0, none⟩)] (usedB L skip) (aheadC L S nb) (fun W => VicP W pb p q L ∧ VicM W mb m q' o l pg nb S ∧ VicS W sb sv skip) (fun W W' h hb => ⟨h.1.below hb, h.2.1.below hb, h.2.2.below hb⟩)
    (fun b _ W h => used_any pb p q sb L sv skip hl b W h.1 h.2.2) (fun b c _ _ _ W h => aheadC_any pb p q mb m q' o l L pg nb S b c W h.1 h.2.1) w ⟨hp, hm, hs⟩
theorem first_low (pb p q sb : Nat) (L : List (Int × Int)) (sv : Value) (skip : List Int) (hl : skip.length ≤ maxLen) (w : World) (hp : VicP w pb p q L) (hs : VicS w sb sv skip) :
    Calls Try.prog 26 #[.func (.func 29) #[] #[.pointer (some ⟨pb, 0, none⟩), .pointer (some ⟨sb, 0, none⟩)], .func (.func 30) #[] #[.pointer (some ⟨pb, 0, none⟩)]] w fun e w' => e = .returned (.int .i64 (lowK L skip)) ∧ Below w.heap.size w w' := by
  unfold lowK
  exact first_any 29 30 enters_good enters_less (.pointer (some ⟨pb, 0, none⟩)) (.pointer (some ⟨sb, 0, none⟩)) #[.pointer (some ⟨pb, 0, none⟩)] (goodB L skip) (lessB L) (fun W => VicP W pb p q L ∧ VicS W sb sv skip) (fun W W' h hb => ⟨h.1.below hb, h.2.below hb⟩)
    (fun b _ W h => good_any pb p q sb L sv skip hl b W h.1 h.2) (fun b c _ _ _ W h => less_any pb p q L b c W h.1) w ⟨hp, hs⟩
theorem first_high (pb p q sb : Nat) (L : List (Int × Int)) (sv : Value) (skip : List Int) (hl : skip.length ≤ maxLen) (w : World) (hp : VicP w pb p q L) (hs : VicS w sb sv skip) :
    Calls Try.prog 26 #[.func (.func 29) #[] #[.pointer (some ⟨pb, 0, none⟩), .pointer (some ⟨sb, 0, none⟩)], .func (.func 31) #[] #[.pointer (some ⟨pb, 0, none⟩)]] w fun e w' => e = .returned (.int .i64 (highK L skip)) ∧ Below w.heap.size w w' := by
  unfold highK
  exact first_any 29 31 enters_good enters_more (.pointer (some ⟨pb, 0, none⟩)) (.pointer (some ⟨sb, 0, none⟩)) #[.pointer (some ⟨pb, 0, none⟩)] (goodB L skip) (moreB L) (fun W => VicP W pb p q L ∧ VicS W sb sv skip) (fun W W' h hb => ⟨h.1.below hb, h.2.below hb⟩)
    (fun b _ W h => good_any pb p q sb L sv skip hl b W h.1 h.2) (fun b c _ _ _ W h => more_any pb p q L b c W h.1) w ⟨hp, hs⟩
def chooseZ (L : List (Int × Int)) (S : Spots) (nb : Nat) (skip : List Int) : Int × Bool := if chooseK L S nb skip = -1 then (0, false) else (chooseK L S nb skip, true)
def coldZ (L : List (Int × Int)) (level : Int) (skip : List Int) : Int × Bool :=
  if level < 1 ∨ lowK L skip = -1 ∨ fstZ L (lowK L skip) ≠ 2 ∨ sndZ L (highK L skip) - sndZ L (lowK L skip) < level then (0, false) else (lowK L skip, true)
set_option maxRecDepth 100000 in
theorem choose_nilP (m : Option Addr) (a : Option Addr) (n cap : Nat) (w : World) : Calls Try.prog 8 #[.pointer none, .pointer m, .slice a n cap] w fun e w' => e = .returned (.tuple #[.int .i64 0, .bool false]) ∧ Below w.heap.size w w' := by
  go_enter Try.func8, Try.ntmps8
  go_wp2_with fail
  go_ret2
  exact ⟨rfl, by go_grown⟩
set_option maxRecDepth 100000 in
theorem choose_nilM (p : Addr) (a : Option Addr) (n cap : Nat) (w : World) : Calls Try.prog 8 #[.pointer (some p), .pointer none, .slice a n cap] w fun e w' => e = .returned (.tuple #[.int .i64 0, .bool false]) ∧ Below w.heap.size w w' := by
  go_enter Try.func8, Try.ntmps8
  go_wp2_with fail
  go_ret2
  exact ⟨rfl, by go_grown⟩
set_option maxRecDepth 100000 in
theorem cold_nil (lv : Int) (a : Option Addr) (n cap : Nat) (w : World) : Calls Try.prog 10 #[.pointer none, .int .i64 lv, .slice a n cap] w fun e w' => e = .returned (.tuple #[.int .i64 0, .bool false]) ∧ Below w.heap.size w w' := by
  go_enter Try.func10, Try.ntmps10
  go_wp2_with fail
  go_ret2
  exact ⟨rfl, by go_grown⟩
theorem short_nil (n : Int) (w : World) : Calls Try.prog 12 #[.pointer none, .int .i64 n] w fun e w' => e = .returned (.bool false) ∧ Below w.heap.size w w' := by
  go_enter Try.func12, Try.ntmps12
  go_wp2_with fail
  go_ret
  exact ⟨rfl, Below.refl _ _⟩
theorem short_any (p q : Nat) (L : List (Int × Int)) (hl : L.length ≤ 1000000) (n : Int) (w : World) (h : PoolAt w p q L) :
    Calls Try.prog 12 #[.pointer (some ⟨p, 0, none⟩), .int .i64 n] w fun e w' => e = .returned (.bool (decide ((cntK L 1 L.length : Int) < n))) ∧ Below w.heap.size w w' := by
  have HC := hide (count_any p q L hl 1 w h)
  clear h
  generalize cntK L 1 L.length = c at *
  go_enter Try.func12, Try.ntmps12
  go_wp2_with fail
  refine HC.out.mono ?_
  rintro e w1 ⟨rfl, hb⟩
  have B1 := hide hb
  clear hb
  go_wp2_with fail
  go_ret
  exact ⟨rfl, B1.out⟩
set_option maxRecDepth 100000 in
theorem choose_any (p q m q' o l : Nat) (L : List (Int × Int)) (pg : Int) (nb : Nat) (S : Spots) (sv : Value) (skip : List Int) (hl : skip.length ≤ maxLen) (w : World) (hp : PoolAt w p q L) (hm : WhereAt w m q' o l pg nb S) (hs : NumsAt w .i64 sv skip) :
    Calls Try.prog 8 #[.pointer (some ⟨p, 0, none⟩), .pointer (some ⟨m, 0, none⟩), sv] w fun e w' => e = .returned (.tuple #[.int .i64 (chooseZ L S nb skip).1, .bool (chooseZ L S nb skip).2]) ∧ Below w.heap.size w w' := by
  obtain ⟨a, cap, rfl, -, -⟩ := nums_at hs
  have HP := hide hp
  have HM := hide hm
  have HS := hide hs
  have HF := hide (fun pb mb sb W h1 h2 h3 => first_choose pb p q mb m q' o l sb L pg nb S (.slice a skip.length cap) skip hl W h1 h2 h3)
  have HZ := hide (show chooseZ L S nb skip = if chooseK L S nb skip = -1 then (0, false) else (chooseK L S nb skip, true) from rfl)
  generalize chooseK L S nb skip = k at *
  generalize chooseZ L S nb skip = z at *
  clear hp hm hs
  go_enter Try.func8, Try.ntmps8
  go_wp2_with fail
  have b1 := (Below.refl w.heap.size w).alloc (Nat.le_refl _) (.cells #[.pointer (some ⟨p, 0, none⟩)] 24)
  have b2 := b1.alloc (by simp) (.cells #[.pointer (some ⟨m, 0, none⟩)] 25)
  have b3 := b2.alloc (by simp; omega) (.cells #[(.slice a skip.length cap)] 23)
  have h1 := heap_new w (.cells #[.pointer (some ⟨p, 0, none⟩)] 24)
  generalize hw1 : w.alloc (.cells #[.pointer (some ⟨p, 0, none⟩)] 24) = w1 at *
  have s1 : w1.heap.size = w.heap.size + 1 := by rw [← hw1]; simp
  have h2 := heap_new w1 (.cells #[.pointer (some ⟨m, 0, none⟩)] 25)
  have h1 := heap_old w1 (.cells #[.pointer (some ⟨m, 0, none⟩)] 25) _ (heap_lt h1) |>.trans h1
  generalize hw2 : w1.alloc (.cells #[.pointer (some ⟨m, 0, none⟩)] 25) = w2 at *
  have s2 : w2.heap.size = w.heap.size + 1 + 1 := by rw [← hw2]; simp [s1]
  have h3 := heap_new w2 (.cells #[(.slice a skip.length cap)] 23)
  have h1 := heap_old w2 (.cells #[(.slice a skip.length cap)] 23) _ (heap_lt h1) |>.trans h1
  have h2 := heap_old w2 (.cells #[(.slice a skip.length cap)] 23) _ (heap_lt h2) |>.trans h2
  rw [s1] at h2
  rw [s2] at h3
  generalize w2.alloc (.cells #[(.slice a skip.length cap)] 23) = w3 at *
  refine (HF.out _ _ _ w3 ⟨HP.out.below b3, h1⟩ ⟨HM.out.below b3, h2⟩ ⟨h3, HS.out.below b3⟩).mono ?_
  rintro e w4 ⟨rfl, hb⟩
  have B4 := hide (b3.trans (hb.mono b3.size))
  clear hb b1 b2 b3 h1 h2 h3 hw1 hw2 s1 s2
  by_cases hk : k = -1
  · subst hk
    rw [if_pos rfl] at HZ
    go_wp2_with fail
    go_ret2
    exact ⟨ret_ib (by rw [HZ.out]) (by rw [HZ.out]), B4.out⟩
  · rw [if_neg hk] at HZ
    go_wp2_with fail
    go_ret2
    exact ⟨ret_ib (by rw [HZ.out]) (by rw [HZ.out]), B4.out⟩
set_option maxRecDepth 100000 in
theorem cold_no (p : Addr) (lv : Int) (h : lv < 1) (a : Option Addr) (n cap : Nat) (w : World) : Calls Try.prog 10 #[.pointer (some p), .int .i64 lv, .slice a n cap] w fun e w' => e = .returned (.tuple #[.int .i64 0, .bool false]) ∧ Below w.heap.size w w' := by
  go_enter Try.func10, Try.ntmps10
  go_wp2_with fail
  go_ret2
  exact ⟨rfl, by go_grown⟩
def SndOk (L : List (Int × Int)) : Prop := ∀ b, 0 ≤ sndZ L b ∧ sndZ L b ≤ 1000000
set_option maxRecDepth 100000 in
theorem cold_any (p q : Nat) (L : List (Int × Int)) (hL : SndOk L) (lv : Int) (h : 1 ≤ lv) (sv : Value) (skip : List Int) (hl : skip.length ≤ maxLen) (w : World) (hp : PoolAt w p q L) (hs : NumsAt w .i64 sv skip) :
    Calls Try.prog 10 #[.pointer (some ⟨p, 0, none⟩), .int .i64 lv, sv] w fun e w' => e = .returned (.tuple #[.int .i64 (coldZ L lv skip).1, .bool (coldZ L lv skip).2]) ∧ Below w.heap.size w w' := by
  obtain ⟨a, cap, rfl, -, -⟩ := nums_at hs
  have HP := hide hp
  have HS := hide hs
  have HF := hide (fun pb sb W h1 h2 => first_low pb p q sb L (.slice a skip.length cap) skip hl W h1 h2)
  have HG := hide (fun pb sb W h1 h2 => first_high pb p q sb L (.slice a skip.length cap) skip hl W h1 h2)
  have HST := hide (fun W hW => state_any p q L (lowK L skip) W hW)
  have HWL := hide (fun W hW => wear_any p q L (lowK L skip) W hW)
  have HWH := hide (fun W hW => wear_any p q L (highK L skip) W hW)
  have HZ := hide (show coldZ L lv skip = if lv < 1 ∨ lowK L skip = -1 ∨ fstZ L (lowK L skip) ≠ 2 ∨ sndZ L (highK L skip) - sndZ L (lowK L skip) < lv then (0, false) else (lowK L skip, true) from rfl)
  have hb1 := hL (lowK L skip)
  have hb2 := hL (highK L skip)
  generalize coldZ L lv skip = z at *
  generalize fstZ L (lowK L skip) = st at *
  generalize sndZ L (lowK L skip) = u at *
  generalize sndZ L (highK L skip) = v at *
  generalize lowK L skip = lo at *
  generalize highK L skip = hi at *
  clear hp hs hL
  go_enter Try.func10, Try.ntmps10
  go_wp2_with fail
  have b1 := (Below.refl w.heap.size w).alloc (Nat.le_refl _) (.cells #[.pointer (some ⟨p, 0, none⟩)] 24)
  have b3 := b1.alloc (by simp) (.cells #[(.slice a skip.length cap)] 23)
  have h1 := heap_new w (.cells #[.pointer (some ⟨p, 0, none⟩)] 24)
  generalize hw1 : w.alloc (.cells #[.pointer (some ⟨p, 0, none⟩)] 24) = w1 at *
  have s1 : w1.heap.size = w.heap.size + 1 := by rw [← hw1]; simp
  have h3 := heap_new w1 (.cells #[(.slice a skip.length cap)] 23)
  have h1 := heap_old w1 (.cells #[(.slice a skip.length cap)] 23) _ (heap_lt h1) |>.trans h1
  rw [s1] at h3
  generalize w1.alloc (.cells #[(.slice a skip.length cap)] 23) = w3 at *
  have P3 := hide (show VicP w3 _ p q L from ⟨HP.out.below b3, h1⟩)
  have S3 := hide (show VicS w3 _ (.slice a skip.length cap) skip from ⟨h3, HS.out.below b3⟩)
  have B3 := hide b3
  clear b1 b3 h1 h3 hw1 s1 HP HS
  refine (HF.out _ _ w3 P3.out S3.out).mono ?_
  rintro e w4 ⟨rfl, hb⟩
  have P4 := hide (P3.out.below hb)
  have S4 := hide (S3.out.below hb)
  have B4 := hide (B3.out.trans (hb.mono B3.out.size))
  clear hb P3 S3 B3
  go_wp2_with fail
  refine (HG.out _ _ w4 P4.out S4.out).mono ?_
  rintro e w5 ⟨rfl, hb⟩
  have P5 := hide (P4.out.below hb)
  have B5 := hide (B4.out.trans (hb.mono B4.out.size))
  clear hb P4 S4 B4 HF HG
  have c5 := cell_of_block P5.out.pbox 0
  have HP5 := hide (fun n => P5.out.pool.drewN n)
  have d0 : ¬ lv < 1 := by omega
  have hsub1 : -9223372036854775808 ≤ v - u := by omega
  have hsub2 : v - u ≤ 9223372036854775807 := by omega
  have hwv : IntKind.i64.wrap (v - u) = v - u := by rw [IntKind.wrap_i64]; omega
  clear P5
  by_cases hlo : lo = -1
  · subst hlo
    rw [if_pos (.inr (.inl rfl))] at HZ
    go_wp2
    go_quiet (fail)
    go_wp2
    go_ret2
    exact ⟨ret_ib (by rw [HZ.out]) (by rw [HZ.out]), B5.out.drewN _⟩
  · have hdl : decide (lo = -1) = false := decide_eq_false hlo
    have hdm : (lo == -1) = false := by simp [hlo]
    by_cases hst : st = 2
    · subst hst
      by_cases hlv : v - u < lv
      · have hdv : decide (v - u < lv) = true := decide_eq_true hlv
        rw [if_pos (.inr (.inr (.inr hlv)))] at HZ
        go_wp2
        go_quiet ((first | (go_at_call 14; with_reducible exact quiet_eq (HST.out _ (HP5.out _))) | (go_at_call 17; with_reducible exact quiet_eq (HWL.out _ (HP5.out _))) | (go_at_call 17; with_reducible exact quiet_eq (HWH.out _ (HP5.out _)))))
        go_wp2
        go_ret2
        exact ⟨ret_ib (by rw [HZ.out]) (by rw [HZ.out]), B5.out.drewN _⟩
      · have hdv : decide (v - u < lv) = false := decide_eq_false hlv
        rw [if_neg (by simp [hlo, hlv, d0])] at HZ
        go_wp2
        go_quiet ((first | (go_at_call 14; with_reducible exact quiet_eq (HST.out _ (HP5.out _))) | (go_at_call 17; with_reducible exact quiet_eq (HWL.out _ (HP5.out _))) | (go_at_call 17; with_reducible exact quiet_eq (HWH.out _ (HP5.out _)))))
        go_wp2
        go_ret2
        exact ⟨ret_ib (by rw [HZ.out]) (by rw [HZ.out]), B5.out.drewN _⟩
    · have hds : decide (st = 2) = false := decide_eq_false hst
      rw [if_pos (.inr (.inr (.inl hst)))] at HZ
      go_wp2
      go_quiet ((go_at_call 14; with_reducible exact quiet_eq (HST.out _ (HP5.out _))))
      go_wp2
      go_ret2
      exact ⟨ret_ib (by rw [HZ.out]) (by rw [HZ.out]), B5.out.drewN _⟩
end Go.Proofs.Ytpgogdnjddeagaa
