/-
  Layer 15, the program's calls: the closures of Choose and Cold.
-/
import Derived.Test.YtpgogdnjddeagaaVic
--import Derived.Test.Zdbg
namespace Go.Proofs.Ytpgogdnjddeagaa
set_option linter.unusedSimpArgs false
set_option linter.unusedVariables false
open Go.RowKit Go.WideShapes Go.ChangeShapes Go.ChangeAt Go.Deep W

theorem PoolAt.drewN {w : World} {p q : Nat} {L : List (Int × Int)} (h : PoolAt w p q L) (n : Nat) : PoolAt (w.drewN n) p q L := ⟨h.head, h.row, h.ne⟩
def lvZ (S : Spots) (nb : Nat) (b : Int) : Int := if 0 ≤ b ∧ b < nb then ((liveN S b : Nat) : Int) else 0
theorem live_any {w : World} {p q o l : Nat} {pg : Int} {nb : Nat} {S : Spots} (h : WhereAt w p q o l pg nb S) (b : Int) :
    Calls Try.prog 15 #[.pointer (some ⟨p, 0, none⟩), .int .i64 b] w fun e w' => e = .returned (.int .i64 (lvZ S nb b)) ∧ w = w' := by
  unfold lvZ
  by_cases hb : 0 ≤ b ∧ b < nb
  · obtain ⟨n, rfl⟩ := Int.eq_ofNat_of_zero_le hb.1
    rw [if_pos hb]
    exact live_yes h n (by omega)
  · rw [if_neg hb]
    exact live_no h b (by omega)
/-- what the closures look at -/
structure VicP (W : World) (pb p q : Nat) (L : List (Int × Int)) : Prop where
  pool : PoolAt W p q L
  pbox : W.heap[pb]? = some (.cells #[.pointer (some ⟨p, 0, none⟩)] 24 (0, 0))
theorem VicP.below {W W' : World} {pb p q : Nat} {L : List (Int × Int)} (h : VicP W pb p q L) (hb : Below W.heap.size W W') : VicP W' pb p q L :=
  ⟨h.pool.below hb, (hb.block _ (heap_lt h.pbox)).trans h.pbox⟩
structure VicS (W : World) (sb : Nat) (sv : Value) (skip : List Int) : Prop where
  sbox : W.heap[sb]? = some (.cells #[sv] 23 (0, 0))
  nums : NumsAt W .i64 sv skip
theorem VicS.below {W W' : World} {sb : Nat} {sv : Value} {skip : List Int} (h : VicS W sb sv skip) (hb : Below W.heap.size W W') : VicS W' sb sv skip :=
  ⟨(hb.block _ (heap_lt h.sbox)).trans h.sbox, h.nums.below hb⟩
structure VicM (W : World) (mb m q o l : Nat) (pg : Int) (nb : Nat) (S : Spots) : Prop where
  map : WhereAt W m q o l pg nb S
  mbox : W.heap[mb]? = some (.cells #[.pointer (some ⟨m, 0, none⟩)] 25 (0, 0))
theorem VicM.below {W W' : World} {mb m q o l : Nat} {pg : Int} {nb : Nat} {S : Spots} (h : VicM W mb m q o l pg nb S) (hb : Below W.heap.size W W') : VicM W' mb m q o l pg nb S :=
  ⟨h.map.below hb, (hb.block _ (heap_lt h.mbox)).trans h.mbox⟩

def usedB (L : List (Int × Int)) (skip : List Int) (b : Int) : Bool := decide (fstZ L b = 2) && !decide (b ∈ skip)
def goodB (L : List (Int × Int)) (skip : List Int) (b : Int) : Bool := (decide (fstZ L b = 1) || decide (fstZ L b = 2)) && !decide (b ∈ skip)
def aheadC (L : List (Int × Int)) (S : Spots) (nb : Nat) (a b : Int) : Bool := if lvZ S nb a ≠ lvZ S nb b then decide (lvZ S nb a < lvZ S nb b) else decide (sndZ L a < sndZ L b)
def lessB (L : List (Int × Int)) (a b : Int) : Bool := decide (sndZ L a < sndZ L b)
def moreB (L : List (Int × Int)) (a b : Int) : Bool := decide (sndZ L a > sndZ L b)
set_option maxRecDepth 100000 in
theorem used_any (pb p q sb : Nat) (L : List (Int × Int)) (sv : Value) (skip : List Int) (hl : skip.length ≤ maxLen) (b : Int) (w : World) (hp : VicP w pb p q L) (hs : VicS w sb sv skip) :
    Calls Try.prog 24 #[.int .i64 b, .pointer (some ⟨pb, 0, none⟩), .pointer (some ⟨sb, 0, none⟩)] w fun e w' => e = .returned (.bool (usedB L skip b)) ∧ Below w.heap.size w w' := by
  have HST := hide (state_any p q L b w hp.pool)
  have HCO := hide (contains_any skip sv b w hs.nums hl)
  have HU := hide (show usedB L skip b = (decide (fstZ L b = 2) && !decide (b ∈ skip)) from rfl)
  have c0 := cell_of_block hp.pbox 0
  have d0 := cell_of_block hs.sbox 0
  clear hp hs
  generalize fstZ L b = x at *
  go_enter Try.func24, Try.ntmps24
  go_wp2_with fail
  refine HST.out.mono ?_
  rintro e w1 ⟨rfl, rfl⟩
  by_cases hx : x = 2
  · subst hx
    go_wp2_with fail
    refine HCO.out.mono ?_
    rintro e w1 ⟨rfl, rfl⟩
    go_wp2_with fail
    go_ret
    exact ⟨ret_bb (by rw [HU.out]; simp), Below.refl _ _⟩
  · go_wp2_with fail
    go_ret
    exact ⟨ret_bb (by rw [HU.out]; simp [hx]), Below.refl _ _⟩
set_option maxRecDepth 100000 in
theorem good_any (pb p q sb : Nat) (L : List (Int × Int)) (sv : Value) (skip : List Int) (hl : skip.length ≤ maxLen) (b : Int) (w : World) (hp : VicP w pb p q L) (hs : VicS w sb sv skip) :
    Calls Try.prog 29 #[.int .i64 b, .pointer (some ⟨pb, 0, none⟩), .pointer (some ⟨sb, 0, none⟩)] w fun e w' => e = .returned (.bool (goodB L skip b)) ∧ Below w.heap.size w w' := by
  have HST := hide (state_any p q L b w hp.pool)
  have HCO := hide (contains_any skip sv b w hs.nums hl)
  have HU := hide (show goodB L skip b = ((decide (fstZ L b = 1) || decide (fstZ L b = 2)) && !decide (b ∈ skip)) from rfl)
  have c0 := cell_of_block hp.pbox 0
  have d0 := cell_of_block hs.sbox 0
  clear hp hs
  generalize fstZ L b = x at *
  go_enter Try.func29, Try.ntmps29
  go_wp2_with fail
  refine HST.out.mono ?_
  rintro e w1 ⟨rfl, rfl⟩
  by_cases hx1 : x = 1
  · subst hx1
    go_wp2_with fail
    refine HCO.out.mono ?_
    rintro e w1 ⟨rfl, rfl⟩
    go_wp2_with fail
    go_ret
    exact ⟨ret_bb (by rw [HU.out]; simp), Below.refl _ _⟩
  · by_cases hx : x = 2
    · subst hx
      go_wp2_with fail
      refine HCO.out.mono ?_
      rintro e w1 ⟨rfl, rfl⟩
      go_wp2_with fail
      go_ret
      exact ⟨ret_bb (by rw [HU.out]; simp), Below.refl _ _⟩
    · go_wp2_with fail
      go_ret
      exact ⟨ret_bb (by rw [HU.out]; simp [hx, hx1]), Below.refl _ _⟩
set_option maxRecDepth 100000 in
theorem less_any (pb p q : Nat) (L : List (Int × Int)) (a b : Int) (w : World) (hp : VicP w pb p q L) :
    Calls Try.prog 30 #[.int .i64 a, .int .i64 b, .pointer (some ⟨pb, 0, none⟩)] w fun e w' => e = .returned (.bool (lessB L a b)) ∧ Below w.heap.size w w' := by
  have HW := hide hp.pool
  have c0 := cell_of_block hp.pbox 0
  have HA := hide (show lessB L a b = decide (sndZ L a < sndZ L b) from rfl)
  have HWA := hide (fun n => wear_any p q L a _ (HW.out.drewN n))
  have HWB := hide (fun n => wear_any p q L b _ (HW.out.drewN n))
  clear hp
  generalize sndZ L a = u at *
  generalize sndZ L b = v at *
  go_enter Try.func30, Try.ntmps30
  go_wp2
  go_quiet ((first | (go_at_call 17; with_reducible exact quiet_eq (HWA.out _)) | (go_at_call 17; with_reducible exact quiet_eq (HWB.out _))))
  go_wp2
  go_ret
  exact ⟨ret_bb HA.out.symm, (Below.refl _ _).drewN _⟩
set_option maxRecDepth 100000 in
theorem more_any (pb p q : Nat) (L : List (Int × Int)) (a b : Int) (w : World) (hp : VicP w pb p q L) :
    Calls Try.prog 31 #[.int .i64 a, .int .i64 b, .pointer (some ⟨pb, 0, none⟩)] w fun e w' => e = .returned (.bool (moreB L a b)) ∧ Below w.heap.size w w' := by
  have HW := hide hp.pool
  have c0 := cell_of_block hp.pbox 0
  have HA := hide (show moreB L a b = decide (sndZ L a > sndZ L b) from rfl)
  have HWA := hide (fun n => wear_any p q L a _ (HW.out.drewN n))
  have HWB := hide (fun n => wear_any p q L b _ (HW.out.drewN n))
  clear hp
  generalize sndZ L a = u at *
  generalize sndZ L b = v at *
  go_enter Try.func31, Try.ntmps31
  go_wp2
  go_quiet ((first | (go_at_call 17; with_reducible exact quiet_eq (HWA.out _)) | (go_at_call 17; with_reducible exact quiet_eq (HWB.out _))))
  go_wp2
  go_ret
  exact ⟨ret_bb HA.out.symm, (Below.refl _ _).drewN _⟩
set_option maxRecDepth 100000 in
theorem aheadC_any (pb p q mb m q' o l : Nat) (L : List (Int × Int)) (pg : Int) (nb : Nat) (S : Spots) (a b : Int) (w : World) (hp : VicP w pb p q L) (hm : VicM w mb m q' o l pg nb S) :
    Calls Try.prog 27 #[.int .i64 a, .int .i64 b, .pointer (some ⟨mb, 0, none⟩), .pointer (some ⟨pb, 0, none⟩)] w fun e w' => e = .returned (.bool (aheadC L S nb a b)) ∧ Below w.heap.size w w' := by
  have HW := hide hp.pool
  have HM := hide hm.map
  have c0 := cell_of_block hp.pbox 0
  have d0 := cell_of_block hm.mbox 0
  have HA := hide (show aheadC L S nb a b = if lvZ S nb a ≠ lvZ S nb b then decide (lvZ S nb a < lvZ S nb b) else decide (sndZ L a < sndZ L b) from rfl)
  have HLA := hide (fun W (h : WhereAt W m q' o l pg nb S) => live_any h a)
  have HLB := hide (fun W (h : WhereAt W m q' o l pg nb S) => live_any h b)
  have HWA := hide (fun W (h : PoolAt W p q L) => wear_any p q L a W h)
  have HWB := hide (fun W (h : PoolAt W p q L) => wear_any p q L b W h)
  clear hp hm
  generalize lvZ S nb a = x at *
  generalize lvZ S nb b = y at *
  generalize sndZ L a = u at *
  generalize sndZ L b = v at *
  go_enter Try.func27, Try.ntmps27
  go_wp2
  go_quiet ((first | (go_at_call 15; with_reducible exact quiet_eq (HLA.out _ (HM.out.drewN _))) | (go_at_call 15; with_reducible exact quiet_eq (HLB.out _ (HM.out.drewN _)))))
  rename_i nq
  have HW := hide (HW.out.drewN nq)
  have HM := hide (HM.out.drewN nq)
  have c0 : (w.drewN nq).cell? ⟨pb, 0, none⟩ = some (.pointer (some ⟨p, 0, none⟩)) := c0
  have d0 : (w.drewN nq).cell? ⟨mb, 0, none⟩ = some (.pointer (some ⟨m, 0, none⟩)) := d0
  have B0 := hide ((Below.refl w.heap.size w).drewN nq)
  generalize w.drewN nq = w1 at *
  by_cases hxy : x = y
  · go_wp2
    go_quiet ((first | (go_at_call 17; with_reducible exact quiet_eq (HWA.out _ (HW.out.drewN _))) | (go_at_call 17; with_reducible exact quiet_eq (HWB.out _ (HW.out.drewN _)))))
    go_wp2
    go_ret
    exact ⟨ret_bb (by rw [HA.out, if_neg (fun h => h hxy)]), B0.out.drewN _⟩
  · go_wp2
    go_quiet ((first | (go_at_call 15; with_reducible exact quiet_eq (HLA.out _ (HM.out.drewN _))) | (go_at_call 15; with_reducible exact quiet_eq (HLB.out _ (HM.out.drewN _)))))
    go_wp2
    go_ret
    exact ⟨ret_bb (by rw [HA.out, if_pos hxy]), B0.out.drewN _⟩
end Go.Proofs.Ytpgogdnjddeagaa
