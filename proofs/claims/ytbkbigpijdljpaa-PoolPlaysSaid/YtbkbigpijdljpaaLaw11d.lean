/-
  Layer 11: PoolPlays.
-/
import Derived.Test.YtbkbigpijdljpaaRPoolN
import Derived.Test.YtbkbigpijdljpaaLaw11
namespace Go.Proofs.Ytbkbigpijdljpaa
set_option linter.unusedSimpArgs false
set_option linter.unusedVariables false
open Go.RowKit Go.WideShapes Go.ChangeShapes Go.ChangeAt

def act3 (x : Int × Int × Int) : List Value := [.int .i64 x.1, .int .i64 x.2.1, .int .i64 x.2.2]
def Act3Ok (x : Int × Int × Int) : Prop := (-9223372036854775808 ≤ x.1 ∧ x.1 ≤ 9223372036854775807) ∧ (-9223372036854775808 ≤ x.2.1 ∧ x.2.1 ≤ 9223372036854775807) ∧ (-9223372036854775808 ≤ x.2.2 ∧ x.2.2 ≤ 9223372036854775807)
def act0 : Int × Int × Int := (0, 0, 0)
/-- what is done, as it came in -/
def ActsIn (w : World) (v : Value) : Prop := ∃ L : List (Int × Int × Int), RowsAt w v 3 (L.map act3) ∧ ∀ x ∈ L, Act3Ok x
theorem act3_of {x : List Value} (hl : x.length = 3) (h : ∀ (j : Nat) c u, [TypeDesc.int .i64, .int .i64, .int .i64][j]? = some c → x[j]? = some u → CellIs c u) : ∃ f : Int × Int × Int, x = act3 f ∧ Act3Ok f := by
  match x, hl with
  | [c0, c1, c2], _ =>
    obtain ⟨k, rfl, hk⟩ := h 0 _ _ rfl rfl
    obtain ⟨b, rfl, hb⟩ := h 1 _ _ rfl rfl
    obtain ⟨n, rfl, hn⟩ := h 2 _ _ rfl rfl
    exact ⟨(k, b, n), rfl, wf_i64 hk, wf_i64 hb, wf_i64 hn⟩
theorem open_acts {H : Type} {enc : TypeId × Value → H} {w : World} {base : Nat} {sp : Nat → Bool} {held : Bool} {r : Reach} {b0 : Nat} {v : Value} {d : DataW H} {ps : List MemPlace}
    (hv : Value.okWide Try.prog w r b0 22 v) (h : DataW.Trod enc Try.prog w base sp held 22 v d ps) : ActsIn w v := by
  obtain ⟨L, hL, hx⟩ := open_rows [.int .i64, .int .i64, .int .i64] Try.underlying22 Try.underlying31 (by kernel_rfl) (by kernel_rfl) (by decide) rfl (fun j hj => by
    have : j = 0 ∨ j = 1 ∨ j = 2 := by simp at hj; omega
    rcases this with rfl | rfl | rfl <;> rfl) hv h
  obtain ⟨L', rfl, hp⟩ := rows_typed act3 Act3Ok L (fun x hxL => act3_of (hx x hxL).1 (hx x hxL).2)
  exact ⟨L', hL, hp⟩
theorem actsIn_at {w : World} {v : Value} (h : ActsIn w v) : ∃ (L : List (Int × Int × Int)) (a : Option Addr) (cap : Nat), v = .slice a L.length cap ∧ L.length ≤ cap ∧ cap ≤ 9223372036854775807 ∧ (∀ x ∈ L, Act3Ok x) ∧
    ∀ i, i < L.length → ∃ b off, a = some ⟨b, off, none⟩ ∧ b < w.heap.size ∧ w.cell? ⟨b, off + (i * 3), none⟩ = some (.int .i64 (L.getD i act0).1) ∧ w.cell? ⟨b, off + (i * 3 + 1), none⟩ = some (.int .i64 (L.getD i act0).2.1) ∧ w.cell? ⟨b, off + (i * 3 + 2), none⟩ = some (.int .i64 (L.getD i act0).2.2) := by
  obtain ⟨L, ⟨a, cap, rfl, hm, hc, hcm, hi⟩, hok⟩ := h
  rw [List.length_map] at *
  unfold maxLen at *
  refine ⟨L, a, cap, rfl, hc, by omega, hok, fun i hil => ?_⟩
  obtain ⟨b, off, h1, h2, h3⟩ := hi i hil
  rw [getD_map act3 L act0 i hil] at h3
  exact ⟨b, off, h1, h2, h3 0 (by omega), h3 1 (by omega), h3 2 (by omega)⟩
theorem getD_mem3 (L : List (Int × Int × Int)) (i : Nat) (h : i < L.length) : L.getD i act0 ∈ L := by
  simp [List.getD, h]
theorem setE_len (L : List (Int × Int)) (i v : Int) : (setL L i v).length = L.length ∧ (wornL L i v).length = L.length := by
  unfold setL wornL
  constructor <;> split <;> simp
theorem takeL_len (most : Bool) (L : List (Int × Int)) : (takeL most L).length = L.length := by
  unfold takeL
  split <;> simp
theorem getD_setw (L : List (Int × Int)) (j : Nat) (x : Int × Int) (i : Nat) (hj : j < L.length) : (L.set j x).getD i (0, 0) = if i = j then x else L.getD i (0, 0) := by
  simp only [List.getD, List.getElem?_set]
  by_cases h : j = i
  · subst h; simp [hj]
  · rw [if_neg h, if_neg (Ne.symm h)]
theorem WOk.set {L : List (Int × Int)} (h : WOk L) (i v : Int) : WOk (setL L i v) := by
  unfold setL
  split
  · rename_i hz
    intro k hk
    rw [List.length_set] at hk
    unfold setE at hz
    split at hz
    · rename_i hi
      rw [getD_setw _ _ _ _ (by omega)]
      split
      · rename_i hki
        have := h i.toNat (by omega)
        exact this
      · exact h k hk
    · simp at hz
  · exact h
theorem WOk.worn {L : List (Int × Int)} (h : WOk L) (i v : Int) : WOk (wornL L i v) := by
  unfold wornL
  split
  · rename_i hz
    intro k hk
    rw [List.length_set] at hk
    unfold wornE at hz
    split at hz
    · rename_i hi
      rw [getD_setw _ _ _ _ (by omega)]
      split
      · split at hz
        · simp at hz
        · simp only; omega
      · exact h k hk
    · simp at hz
  · exact h
theorem WOk.take {L : List (Int × Int)} (h : WOk L) (most : Bool) : WOk (takeL most L) := by
  have hb := bestK_bd most L L.length
  unfold takeL
  split
  · exact h
  · intro k hk
    rw [List.length_set] at hk
    rw [getD_setw _ _ _ _ (by omega)]
    split
    · exact h _ (by omega)
    · exact h k hk
theorem WOk.new (n : Nat) : WOk (List.replicate n (1, 0)) := by
  intro i hi
  rw [List.length_replicate] at hi
  simp [List.getD, hi]
theorem state_at (p q : Nat) (L : List (Int × Int)) (i : Nat) (hi : i < L.length) (w : World) (h : PoolAt w p q L) :
    Calls Try.prog 17 #[.pointer (some ⟨p, 0, none⟩), .int .i64 (i : Int)] w fun e w' => e = .returned (.int .i64 (L.getD i (0, 0)).1) ∧ w = w' := by
  have := state_any p q L i w h
  rwa [show fstZ L i = (L.getD i (0, 0)).1 by rw [fstZ, if_pos (by omega), Int.toNat_natCast]] at this
theorem wear_at (p q : Nat) (L : List (Int × Int)) (i : Nat) (hi : i < L.length) (w : World) (h : PoolAt w p q L) :
    Calls Try.prog 18 #[.pointer (some ⟨p, 0, none⟩), .int .i64 (i : Int)] w fun e w' => e = .returned (.int .i64 (L.getD i (0, 0)).2) ∧ w = w' := by
  have := wear_any p q L i w h
  rwa [show sndZ L i = (L.getD i (0, 0)).2 by rw [sndZ, if_pos (by omega), Int.toNat_natCast]] at this
theorem state_out (p q : Nat) (L : List (Int × Int)) (i : Int) (hi : i < 0 ∨ (L.length : Int) ≤ i) (w : World) (h : PoolAt w p q L) :
    Calls Try.prog 17 #[.pointer (some ⟨p, 0, none⟩), .int .i64 i] w fun e w' => e = .returned (.int .i64 0) ∧ w = w' := by
  have := state_any p q L i w h
  rwa [show fstZ L i = 0 by rw [fstZ, if_neg (by omega)]] at this
theorem wear_out (p q : Nat) (L : List (Int × Int)) (i : Int) (hi : i < 0 ∨ (L.length : Int) ≤ i) (w : World) (h : PoolAt w p q L) :
    Calls Try.prog 18 #[.pointer (some ⟨p, 0, none⟩), .int .i64 i] w fun e w' => e = .returned (.int .i64 0) ∧ w = w' := by
  have := wear_any p q L i w h
  rwa [show sndZ L i = 0 by rw [sndZ, if_neg (by omega)]] at this
theorem PoolAt.drews {w : World} {p q : Nat} {L : List (Int × Int)} (h : PoolAt w p q L) (k : Nat) : PoolAt (w.drewN k) p q L := ⟨h.head, h.row, h.ne⟩
theorem _root_.Go.Below.drews {B : Nat} {a b : World} (h : Below B a b) (k : Nat) : Below B a (b.drewN k) := ⟨h.os, h.tape, h.output, h.size, h.block⟩
set_option maxRecDepth 100000 in
set_option maxHeartbeats 4000000 in
theorem poolPlays_big (nb : Int) (nb0 : -9223372036854775808 ≤ nb) (nb1 : nb ≤ 9223372036854775807) (w : World) (L : List (Int × Int × Int)) (a : Option Addr) (cap : Nat) (hc : L.length ≤ cap) (hcm : cap ≤ 9223372036854775807) (hok : ∀ x ∈ L, Act3Ok x)
    (hat : ∀ i, i < L.length → ∃ b off, a = some ⟨b, off, none⟩ ∧ b < w.heap.size ∧ w.cell? ⟨b, off + (i * 3), none⟩ = some (.int .i64 (L.getD i act0).1) ∧ w.cell? ⟨b, off + (i * 3 + 1), none⟩ = some (.int .i64 (L.getD i act0).2.1) ∧ w.cell? ⟨b, off + (i * 3 + 2), none⟩ = some (.int .i64 (L.getD i act0).2.2)) (hbig : 60 < L.length) :
    Calls Try.prog 3 #[.int .i64 nb, .slice a L.length cap] w fun e w' => e = .returned (.bool true) ∧ Below w.heap.size w w' := by
  have HOK := hide hok
  have HAT := hide hat
  clear hok hat
  obtain ⟨mx, hmx, m0⟩ : ∃ mx, (if 0 < nb then nb else 0) = mx ∧ 0 ≤ mx := ⟨_, rfl, by split <;> omega⟩
  have y1 : mx % 12 = mx.tmod 12 := by rw [Int.tmod_eq_emod_of_nonneg m0]
  go_enter Try.func3, Try.ntmps3
  go_wp2_with fail
  obtain ⟨n, hn⟩ := Int.eq_ofNat_of_zero_le (show 0 ≤ 1 + mx % 12 by omega)
  have n1 : 1 ≤ n := by omega
  have n12 : n ≤ 12 := by omega
  rw [hn]
  clear hn y1
  refine (new_yes n n1 (by omega) _).mono ?_
  rintro e w1 ⟨rfl, hp, hb⟩
  have HP := hide hp
  have HB := hide hb
  have hp1 := heap_lt hp.head
  have HPB := hide hp1
  clear hp hb hp1
  go_wp2_with fail
  refine (rnew_any n (by omega) _).mono ?_
  rintro e w2 ⟨r, s, t, rfl, hr, r0, s0, t0, hb2⟩
  have HP2 := hide (HP.out.below hb2)
  have HR2 := hide hr
  have HB2 := hide (below_trans HB.out hb2)
  have HR0 := hide r0
  have HS0 := hide s0
  have HT0 := hide t0
  have hws := HB.out.size
  have HWS := hide hws
  clear hr hb2 r0 s0 t0 HP HB hws
  go_wp2_with fail
  refine (wakes11 _).mono ?_
  rintro e w3 ⟨rfl, hb3⟩
  have HP3 := hide (HP2.out.below hb3)
  have HR3 := hide (HR2.out.below hb3)
  have HB3 := hide (below_trans HB2.out hb3)
  clear hb3 HP2 HR2 HB2
  go_wp2_with fail
  go_loopw [53] (fun i W => ∃ (k : Nat) (M : List (Int × Int)), k ≤ 60 ∧ i = .int .i64 k ∧ M.length = n ∧ WOk M ∧ PoolAt W (w.heap.size + 1) w.heap.size M ∧ RPAt W r s t M ∧ Below w.heap.size w W) (fun i _ => 60 - (intOf i).toNat)
  case atStart => exact ⟨0, List.replicate n (1, 0), by omega, rfl, by simp, WOk.new n, HP3.out, HR3.out, HB3.out⟩
  case round =>
    clear HP3 HR3 HB3
    obtain ⟨k, M, hk, rfl, hM, hW, hp, hr, hB⟩ := hrel
    have HP := hide hp
    have HR := hide hr
    have HB := hide hB
    have HM := hide hM
    have HW := hide hW
    by_cases hlt : k < 60
    · obtain ⟨b, off, rfl, hb, c0, c1, c2⟩ := HAT.out k (by omega)
      have d0 : wr.cell? ⟨b, off + k * 3, none⟩ = some (.int .i64 (L.getD k act0).1) := (hB.cell (p := ⟨b, off + k * 3, none⟩) hb).trans c0
      have d1 : wr.cell? ⟨b, off + k * 3 + 1, none⟩ = some (.int .i64 (L.getD k act0).2.1) := (hB.cell (p := ⟨b, off + k * 3 + 1, none⟩) hb).trans c1
      have d2 : wr.cell? ⟨b, off + k * 3 + 2, none⟩ = some (.int .i64 (L.getD k act0).2.2) := (hB.cell (p := ⟨b, off + k * 3 + 2, none⟩) hb).trans c2
      obtain ⟨⟨x0, x1⟩, ⟨z0, z1⟩, ⟨v0, v1⟩⟩ := HOK.out _ (getD_mem3 L k (by omega))
      have hbw : b < wr.heap.size := Nat.lt_of_lt_of_le hb hB.size
      generalize L.getD k act0 = x at *
      obtain ⟨xd, xb, xn⟩ := x
      simp only at *
      clear hp hr hB hM hW c0 c1 c2 hmx
      obtain ⟨my, hmy, my0⟩ : ∃ my, (if 0 < xd then xd else 0) = my ∧ 0 ≤ my := ⟨_, rfl, by split <;> omega⟩
      have y5 : my % 5 = my.tmod 5 := by rw [Int.tmod_eq_emod_of_nonneg my0]
      go_upto_region 11 with (fail)
      have hcs : my % 5 = 0 ∨ my % 5 = 1 ∨ my % 5 = 2 ∨ my % 5 = 3 ∨ my % 5 = 4 := by omega
      rcases hcs with hcs | hcs | hcs | hcs | hcs
      · have hct : my.tmod 5 = 0 := by rw [← y5]; exact hcs
        clear y5 hmy
        as_aux_lemma =>
          have hq := heap_lt HP.out.row
          have hpp := heap_lt HP.out.head
          have hrr := HR0.out
          have hss := HS0.out
          have htt := HT0.out
          have hpb := HPB.out
          have hr9 := heap_lt HR.out.head
          have hs9 := heap_lt HR.out.st
          have ht9 := heap_lt HR.out.we
          have HPA := hide (show PoolAt (wr.alloc (.cells #[.int .i64 xd, .int .i64 xb, .int .i64 xn] 31)) (w.heap.size + 1) w.heap.size M from HP.out.below ((Below.refl _ _).alloc (Nat.le_refl _) _))
          have HRA := hide (show RPAt (wr.alloc (.cells #[.int .i64 xd, .int .i64 xb, .int .i64 xn] 31)) r s t M from HR.out.below ((Below.refl _ _).alloc (Nat.le_refl _) _))
          have HBA := hide (HB.out.alloc HB.out.size (.cells #[.int .i64 xd, .int .i64 xb, .int .i64 xn] 31))
          have hml := hide (show M.length ≤ 1000000 by have := HM.out; omega)
          have HST : Hid ((fun W => W.cell? ⟨wr.heap.size, 0, none⟩ = some (.int .i64 xd) ∧ W.cell? ⟨wr.heap.size, 1, none⟩ = some (.int .i64 xb) ∧ W.cell? ⟨wr.heap.size, 2, none⟩ = some (.int .i64 xn) ∧ wr.heap.size < W.heap.size) (wr.alloc (.cells #[.int .i64 xd, .int .i64 xb, .int .i64 xn] 31)).drew) := hide ⟨by show (wr.alloc _).cell? _ = _; simp [World.cell?_alloc_new], by show (wr.alloc _).cell? _ = _; simp [World.cell?_alloc_new], by show (wr.alloc _).cell? _ = _; simp [World.cell?_alloc_new], by show _ < (wr.alloc _).heap.size; simp⟩
          have HM' := hide (((setE_len M xb xn).1).trans HM.out)
          have HW' := hide (HW.out.set xb xn)
          have HSC := hide (fun W hW => set_any (w.heap.size + 1) w.heap.size M xb xn W hW)
          have HRC := hide (fun W hW => rset_any r s t M hml.out xb xn W hW)
          generalize setE M xb xn = E at *
          generalize setL M xb xn = M' at *
          go_upto_region 12 with (fail)
          refine wp_region_held_drew (S := (fun W => W.cell? ⟨wr.heap.size, 0, none⟩ = some (.int .i64 xd) ∧ W.cell? ⟨wr.heap.size, 1, none⟩ = some (.int .i64 xb) ∧ W.cell? ⟨wr.heap.size, 2, none⟩ = some (.int .i64 xn) ∧ wr.heap.size < W.heap.size)) (by kernel_rfl) (HST.out) (fun hHeld => ?_)
          refine wpAnyH_take (i := 0) (oi := { dst := some 63, op := Op.move (Operand.tmp 6), type := 23, pos := "law.go:37", after := #[], guard := none }) (v := ?_) rfl (by kernel_rfl) (by kernel_rfl) (by kernel_rfl) (fun _ _ _ h => h) (Or.inl ⟨by kernel_rfl, ?_⟩) hHeld ?_
          rotate_left
          · (intro w hSw; (try dsimp only at hSw); go_simp); try with_reducible rfl
          try simp only [Act.put, List.setIfInBounds_toArray, List.set_cons_zero, List.set_cons_succ]
          refine wpAnyH_take (i := 1) (oi := { dst := some 64, op := Op.fieldAddr 31 (Operand.tmp 10) 1, type := 0, pos := "law.go:37", after := #[], guard := none }) (v := ?_) rfl (by kernel_rfl) (by kernel_rfl) (by kernel_rfl) (fun _ _ _ h => h) (Or.inl ⟨by kernel_rfl, ?_⟩) hHeld ?_
          rotate_left
          · (intro w hSw; (try dsimp only at hSw); go_simp); try with_reducible rfl
          try simp only [Act.put, List.setIfInBounds_toArray, List.set_cons_zero, List.set_cons_succ]
          refine wpAnyH_take (i := 2) (oi := { dst := some 65, op := Op.load 3 (Operand.tmp 64), type := 3, pos := "law.go:37", after := #[{ on := 1, ground := Ground.data }], guard := none }) (v := ?_) rfl (by kernel_rfl) (by kernel_rfl) (by kernel_rfl) (fun _ _ _ h => h) (Or.inl ⟨by kernel_rfl, ?_⟩) hHeld ?_
          rotate_left
          · (intro w hSw; (try dsimp only at hSw); go_simp); try with_reducible rfl
          try simp only [Act.put, List.setIfInBounds_toArray, List.set_cons_zero, List.set_cons_succ]
          refine wpAnyH_take (i := 3) (oi := { dst := some 66, op := Op.fieldAddr 31 (Operand.tmp 10) 2, type := 0, pos := "law.go:37", after := #[], guard := none }) (v := ?_) rfl (by kernel_rfl) (by kernel_rfl) (by kernel_rfl) (fun _ _ _ h => h) (Or.inl ⟨by kernel_rfl, ?_⟩) hHeld ?_
          rotate_left
          · (intro w hSw; (try dsimp only at hSw); go_simp); try with_reducible rfl
          try simp only [Act.put, List.setIfInBounds_toArray, List.set_cons_zero, List.set_cons_succ]
          refine wpAnyH_take (i := 4) (oi := { dst := some 67, op := Op.load 3 (Operand.tmp 66), type := 3, pos := "law.go:37", after := #[{ on := 3, ground := Ground.data }], guard := none }) (v := ?_) rfl (by kernel_rfl) (by kernel_rfl) (by kernel_rfl) (fun _ _ _ h => h) (Or.inl ⟨by kernel_rfl, ?_⟩) hHeld ?_
          rotate_left
          · (intro w hSw; (try dsimp only at hSw); go_simp); try with_reducible rfl
          try simp only [Act.put, List.setIfInBounds_toArray, List.set_cons_zero, List.set_cons_succ]
          refine wpAnyH_take (i := 6) (oi := { dst := some 69, op := Op.move (Operand.tmp 8), type := 27, pos := "law.go:37", after := #[], guard := none }) (v := ?_) rfl (by kernel_rfl) (by kernel_rfl) (by kernel_rfl) (fun _ _ _ h => h) (Or.inl ⟨by kernel_rfl, ?_⟩) hHeld ?_
          rotate_left
          · (intro w hSw; (try dsimp only at hSw); go_simp); try with_reducible rfl
          try simp only [Act.put, List.setIfInBounds_toArray, List.set_cons_zero, List.set_cons_succ]
          refine wpAnyH_take (i := 7) (oi := { dst := some 70, op := Op.fieldAddr 31 (Operand.tmp 10) 1, type := 0, pos := "law.go:37", after := #[], guard := none }) (v := ?_) rfl (by kernel_rfl) (by kernel_rfl) (by kernel_rfl) (fun _ _ _ h => h) (Or.inl ⟨by kernel_rfl, ?_⟩) hHeld ?_
          rotate_left
          · (intro w hSw; (try dsimp only at hSw); go_simp); try with_reducible rfl
          try simp only [Act.put, List.setIfInBounds_toArray, List.set_cons_zero, List.set_cons_succ]
          refine wpAnyH_take (i := 8) (oi := { dst := some 71, op := Op.load 3 (Operand.tmp 70), type := 3, pos := "law.go:37", after := #[{ on := 7, ground := Ground.data }], guard := none }) (v := ?_) rfl (by kernel_rfl) (by kernel_rfl) (by kernel_rfl) (fun _ _ _ h => h) (Or.inl ⟨by kernel_rfl, ?_⟩) hHeld ?_
          rotate_left
          · (intro w hSw; (try dsimp only at hSw); go_simp); try with_reducible rfl
          try simp only [Act.put, List.setIfInBounds_toArray, List.set_cons_zero, List.set_cons_succ]
          refine wpAnyH_take (i := 9) (oi := { dst := some 72, op := Op.fieldAddr 31 (Operand.tmp 10) 2, type := 0, pos := "law.go:37", after := #[], guard := none }) (v := ?_) rfl (by kernel_rfl) (by kernel_rfl) (by kernel_rfl) (fun _ _ _ h => h) (Or.inl ⟨by kernel_rfl, ?_⟩) hHeld ?_
          rotate_left
          · (intro w hSw; (try dsimp only at hSw); go_simp); try with_reducible rfl
          try simp only [Act.put, List.setIfInBounds_toArray, List.set_cons_zero, List.set_cons_succ]
          refine wpAnyH_take (i := 10) (oi := { dst := some 73, op := Op.load 3 (Operand.tmp 72), type := 3, pos := "law.go:37", after := #[{ on := 9, ground := Ground.data }], guard := none }) (v := ?_) rfl (by kernel_rfl) (by kernel_rfl) (by kernel_rfl) (fun _ _ _ h => h) (Or.inl ⟨by kernel_rfl, ?_⟩) hHeld ?_
          rotate_left
          · (intro w hSw; (try dsimp only at hSw); go_simp); try with_reducible rfl
          try simp only [Act.put, List.setIfInBounds_toArray, List.set_cons_zero, List.set_cons_succ]
          refine wpAnyH_ready (rs := [5]) (by kernel_rfl) (by simp) ?_
          refine AllReadyH.cons (o := { dst := some 68, op := Op.call { callee := Callee.value (Operand.func 10), args := #[Operand.tmp 63, Operand.tmp 65, Operand.tmp 67], argTypes := #[23, 3, 33] }, type := 24, pos := "law.go:37", after := #[{ on := 0, ground := Ground.data }, { on := 2, ground := Ground.data }, { on := 4, ground := Ground.data }], guard := none }) rfl (fun K hK => ?_) AllReadyH.nil
          have hOld := hide hHeld
          clear hHeld
          go_simp
          refine (HSC.out _ HPA.out.drew).mono ?_
          rintro e w5 ⟨rfl, hp5, ho5⟩
          have HP5 := hide hp5
          have HR5 := hide (HRA.out.drew.only ho5 (by omega) (by omega) (by omega))
          have HB5 := hide (ho5.below HBA.out.drew (Nat.le_refl _) HBA.out.size)
          have HK5 := hide (show (fun W => W.cell? ⟨wr.heap.size, 0, none⟩ = some (.int .i64 xd) ∧ W.cell? ⟨wr.heap.size, 1, none⟩ = some (.int .i64 xb) ∧ W.cell? ⟨wr.heap.size, 2, none⟩ = some (.int .i64 xn) ∧ wr.heap.size < W.heap.size) w5 from ⟨(only_cell ho5 hOld.out.2.2.2 (by omega)).trans hOld.out.1, (only_cell ho5 hOld.out.2.2.2 (by omega)).trans hOld.out.2.1, (only_cell ho5 hOld.out.2.2.2 (by omega)).trans hOld.out.2.2.1, Nat.lt_of_lt_of_le hOld.out.2.2.2 ho5.size⟩)
          clear hp5 ho5
          (try go_wp2_with fail)
          refine hK.out _ _ (HK5.out) (fun hHeld => ?_)
          clear hK K hOld
          try simp only [Act.put, List.setIfInBounds_toArray, List.set_cons_zero, List.set_cons_succ]
          refine wpAnyH_ready (rs := [11]) (by kernel_rfl) (by simp) ?_
          refine AllReadyH.cons (o := { dst := some 74, op := Op.call { callee := Callee.value (Operand.func 11), args := #[Operand.tmp 69, Operand.tmp 71, Operand.tmp 73], argTypes := #[27, 3, 3] }, type := 3, pos := "law.go:37", after := #[{ on := 6, ground := Ground.data }, { on := 8, ground := Ground.data }, { on := 10, ground := Ground.data }, { on := 5, ground := Ground.chain }], guard := none }) rfl (fun K hK => ?_) AllReadyH.nil
          have hOld := hide hHeld
          clear hHeld
          go_simp
          refine (HRC.out _ HR5.out).mono ?_
          rintro e w6 ⟨rfl, hr6, ho6⟩
          have HPX := hide (HP5.out.only ho6 (by omega) (by omega))
          have HRX := hide hr6
          have HBX := hide (ho6.below HB5.out (by omega) HB5.out.size)
          have HK6 := hide (show (fun W => W.cell? ⟨wr.heap.size, 0, none⟩ = some (.int .i64 xd) ∧ W.cell? ⟨wr.heap.size, 1, none⟩ = some (.int .i64 xb) ∧ W.cell? ⟨wr.heap.size, 2, none⟩ = some (.int .i64 xn) ∧ wr.heap.size < W.heap.size) w6 from ⟨(only_cell ho6 hOld.out.2.2.2 (by omega)).trans hOld.out.1, (only_cell ho6 hOld.out.2.2.2 (by omega)).trans hOld.out.2.1, (only_cell ho6 hOld.out.2.2.2 (by omega)).trans hOld.out.2.2.1, Nat.lt_of_lt_of_le hOld.out.2.2.2 ho6.size⟩)
          clear hr6 ho6
          (try go_wp2_with fail)
          refine hK.out _ _ (HK6.out) (fun hHeld => ?_)
          clear hK K hOld
          try simp only [Act.put, List.setIfInBounds_toArray, List.set_cons_zero, List.set_cons_succ]
          refine wpAnyH_take (i := 12) (oi := { dst := some 75, op := Op.binOp BinOp.eql 3 (Operand.tmp 68) (Operand.tmp 74) 3, type := 4, pos := "law.go:37", after := #[{ on := 5, ground := Ground.data }, { on := 11, ground := Ground.data }], guard := none }) (v := ?_) rfl (by kernel_rfl) (by kernel_rfl) (by kernel_rfl) (fun _ _ _ h => h) (Or.inl ⟨by kernel_rfl, ?_⟩) hHeld ?_
          rotate_left
          · (intro w hSw; (try dsimp only at hSw); go_simp); try with_reducible rfl
          try simp only [Act.put, List.setIfInBounds_toArray, List.set_cons_zero, List.set_cons_succ]
          refine wpAnyH_take (i := 13) (oi := { dst := some 11, op := Op.assign (Operand.tmp 75), type := 4, pos := "law.go:37", after := #[{ on := 12, ground := Ground.data }, { on := 11, ground := Ground.chain }, { on := 0, ground := Ground.phase }, { on := 1, ground := Ground.phase }, { on := 2, ground := Ground.phase }, { on := 3, ground := Ground.phase }, { on := 4, ground := Ground.phase }, { on := 5, ground := Ground.phase }, { on := 6, ground := Ground.phase }, { on := 7, ground := Ground.phase }, { on := 8, ground := Ground.phase }, { on := 9, ground := Ground.phase }, { on := 10, ground := Ground.phase }, { on := 11, ground := Ground.phase }, { on := 12, ground := Ground.phase }], guard := none }) (v := ?_) rfl (by kernel_rfl) (by kernel_rfl) (by kernel_rfl) (fun _ _ _ h => h) (Or.inl ⟨by kernel_rfl, ?_⟩) hHeld ?_
          rotate_left
          · (intro w hSw; (try dsimp only at hSw); go_simp); try with_reducible rfl
          try simp only [Act.put, List.setIfInBounds_toArray, List.set_cons_zero, List.set_cons_succ]
          refine wpAnyH_done (by kernel_rfl) ?_ _
          clear HP5 HR5 HB5 HK5 HK6 HST HPA HRA HBA HSC HRC hq hpp hrr hss htt hpb hr9 hs9 ht9 hHeld
          clear d0 d1 d2 hbw HP HR HB
          obtain ⟨wo, rfl⟩ : ∃ wo : World, wo = w6 := ⟨_, rfl⟩
          go_wp2_with fail
          go_loopw [133, 11] (fun i ok W => ∃ j : Nat, j ≤ n ∧ i = .int .i64 j ∧ ok = .bool true ∧ PoolAt W (w.heap.size + 1) w.heap.size M' ∧ RPAt W r s t M' ∧ Below w.heap.size w W) (fun i _ _ => n - (intOf i).toNat)
          case atStart => exact ⟨0, by omega, rfl, rfl, HPX.out, HRX.out, HBX.out⟩
          case round =>
            clear HPX HRX HBX
            obtain ⟨j, hj, rfl, rfl, hp, hr, hB⟩ := hrel
            have HPX := hide hp
            have HRX := hide hr
            have HBX := hide hB
            by_cases hlj : j < n
            · obtain ⟨c0, c1⟩ := hr.cells
              obtain ⟨a0, a1, -⟩ := hr.at j (by rw [HM'.out]; exact hlj)
              have HSA := hide (fun W hW => state_at (w.heap.size + 1) w.heap.size M' j (by rw [HM'.out]; exact hlj) W hW)
              have HWA := hide (fun W hW => wear_at (w.heap.size + 1) w.heap.size M' j (by rw [HM'.out]; exact hlj) W hW)
              rw [HM'.out] at c0 c1
              have hj0 : (0 : Int) ≤ j := by omega
              have hjn : (j : Int) < n := by omega
              clear hp hr hB
              generalize (M'.getD j (0, 0)).1 = xx at *
              generalize (M'.getD j (0, 0)).2 = yy at *
              go_wp2_with fail
              have HC0 := hide c0
              have HC1 := hide c1
              have HA0 := hide a0
              have HA1 := hide a1
              clear c0 c1 a0 a1
              refine wp_region_held_drew (S := (fun W => W.cell? ⟨r, 0, none⟩ = some (.slice (some ⟨s, 0, none⟩) n n) ∧ W.cell? ⟨r, 1, none⟩ = some (.slice (some ⟨t, 0, none⟩) n n) ∧ W.cell? ⟨s, j, none⟩ = some (.int .i64 xx) ∧ W.cell? ⟨t, j, none⟩ = some (.int .i64 yy))) (by kernel_rfl) (⟨HC0.out, HC1.out, HA0.out, HA1.out⟩) (fun hHeld => ?_)
              refine wpAnyH_take (i := 0) (oi := { dst := some 136, op := Op.move (Operand.tmp 11), type := 4, pos := "law.go:50", after := #[], guard := none }) (v := ?_) rfl (by kernel_rfl) (by kernel_rfl) (by kernel_rfl) (fun _ _ _ h => h) (Or.inl ⟨by kernel_rfl, ?_⟩) hHeld ?_
              rotate_left
              · (intro w hSw; (try dsimp only at hSw); go_simp); try with_reducible rfl
              try simp only [Act.put, List.setIfInBounds_toArray, List.set_cons_zero, List.set_cons_succ]
              refine wpAnyH_take (i := 1) (oi := { dst := some 137, op := Op.move (Operand.tmp 136), type := 4, pos := "law.go:50", after := #[{ on := 0, ground := Ground.data }], guard := none }) (v := ?_) rfl (by kernel_rfl) (by kernel_rfl) (by kernel_rfl) (fun _ _ _ h => h) (Or.inl ⟨by kernel_rfl, ?_⟩) hHeld ?_
              rotate_left
              · (intro w hSw; (try dsimp only at hSw); go_simp); try with_reducible rfl
              try simp only [Act.put, List.setIfInBounds_toArray, List.set_cons_zero, List.set_cons_succ]
              refine wpAnyH_take (i := 2) (oi := { dst := some 138, op := Op.move (Operand.tmp 6), type := 23, pos := "law.go:50", after := #[{ on := 1, ground := Ground.guard }], guard := some (1, true) }) (v := ?_) rfl (by kernel_rfl) (by kernel_rfl) (by kernel_rfl) (fun _ _ _ h => h) (Or.inl ⟨by kernel_rfl, ?_⟩) hHeld ?_
              rotate_left
              · (intro w hSw; (try dsimp only at hSw); go_simp); try with_reducible rfl
              try simp only [Act.put, List.setIfInBounds_toArray, List.set_cons_zero, List.set_cons_succ]
              refine wpAnyH_take (i := 3) (oi := { dst := some 139, op := Op.move (Operand.tmp 20), type := 3, pos := "law.go:50", after := #[{ on := 1, ground := Ground.guard }], guard := some (1, true) }) (v := ?_) rfl (by kernel_rfl) (by kernel_rfl) (by kernel_rfl) (fun _ _ _ h => h) (Or.inl ⟨by kernel_rfl, ?_⟩) hHeld ?_
              rotate_left
              · (intro w hSw; (try dsimp only at hSw); go_simp); try with_reducible rfl
              try simp only [Act.put, List.setIfInBounds_toArray, List.set_cons_zero, List.set_cons_succ]
              refine wpAnyH_take (i := 5) (oi := { dst := some 141, op := Op.move (Operand.tmp 8), type := 27, pos := "law.go:50", after := #[{ on := 1, ground := Ground.guard }], guard := some (1, true) }) (v := ?_) rfl (by kernel_rfl) (by kernel_rfl) (by kernel_rfl) (fun _ _ _ h => h) (Or.inl ⟨by kernel_rfl, ?_⟩) hHeld ?_
              rotate_left
              · (intro w hSw; (try dsimp only at hSw); go_simp); try with_reducible rfl
              try simp only [Act.put, List.setIfInBounds_toArray, List.set_cons_zero, List.set_cons_succ]
              refine wpAnyH_take (i := 6) (oi := { dst := some 142, op := Op.nilCheck (Operand.tmp 141), type := 0, pos := "law.go:50", after := #[{ on := 5, ground := Ground.data }, { on := 1, ground := Ground.guard }], guard := some (1, true) }) (v := ?_) rfl (by kernel_rfl) (by kernel_rfl) (by kernel_rfl) (fun _ _ _ h => h) (Or.inl ⟨by kernel_rfl, ?_⟩) hHeld ?_
              rotate_left
              · (intro w hSw; (try dsimp only at hSw); go_simp); try with_reducible rfl
              try simp only [Act.put, List.setIfInBounds_toArray, List.set_cons_zero, List.set_cons_succ]
              refine wpAnyH_take (i := 7) (oi := { dst := some 143, op := Op.fieldAddr 43 (Operand.tmp 142) 0, type := 0, pos := "law.go:50", after := #[{ on := 6, ground := Ground.data }, { on := 1, ground := Ground.guard }], guard := some (1, true) }) (v := ?_) rfl (by kernel_rfl) (by kernel_rfl) (by kernel_rfl) (fun _ _ _ h => h) (Or.inl ⟨by kernel_rfl, ?_⟩) hHeld ?_
              rotate_left
              · (intro w hSw; (try dsimp only at hSw); go_simp); try with_reducible rfl
              try simp only [Act.put, List.setIfInBounds_toArray, List.set_cons_zero, List.set_cons_succ]
              refine wpAnyH_take (i := 8) (oi := { dst := some 144, op := Op.load 41 (Operand.tmp 143), type := 41, pos := "law.go:50", after := #[{ on := 7, ground := Ground.data }, { on := 1, ground := Ground.guard }], guard := some (1, true) }) (v := ?_) rfl (by kernel_rfl) (by kernel_rfl) (by kernel_rfl) (fun _ _ _ h => h) (Or.inl ⟨by kernel_rfl, ?_⟩) hHeld ?_
              rotate_left
              · (intro w hSw; (try dsimp only at hSw); go_simp); try with_reducible rfl
              try simp only [Act.put, List.setIfInBounds_toArray, List.set_cons_zero, List.set_cons_succ]
              refine wpAnyH_take (i := 9) (oi := { dst := some 145, op := Op.move (Operand.tmp 20), type := 3, pos := "law.go:50", after := #[{ on := 1, ground := Ground.guard }], guard := some (1, true) }) (v := ?_) rfl (by kernel_rfl) (by kernel_rfl) (by kernel_rfl) (fun _ _ _ h => h) (Or.inl ⟨by kernel_rfl, ?_⟩) hHeld ?_
              rotate_left
              · (intro w hSw; (try dsimp only at hSw); go_simp); try with_reducible rfl
              try simp only [Act.put, List.setIfInBounds_toArray, List.set_cons_zero, List.set_cons_succ]
              refine wpAnyH_take (i := 10) (oi := { dst := some 146, op := Op.indexAddr 41 (Operand.tmp 144) (Operand.tmp 145), type := 0, pos := "law.go:50", after := #[{ on := 8, ground := Ground.data }, { on := 9, ground := Ground.data }, { on := 1, ground := Ground.guard }], guard := some (1, true) }) (v := ?_) rfl (by kernel_rfl) (by kernel_rfl) (by kernel_rfl) (fun _ _ _ h => h) (Or.inl ⟨by kernel_rfl, ?_⟩) hHeld ?_
              rotate_left
              · (intro w hSw; (try dsimp only at hSw); go_simp); try with_reducible rfl
              try simp only [Act.put, List.setIfInBounds_toArray, List.set_cons_zero, List.set_cons_succ]
              refine wpAnyH_take (i := 11) (oi := { dst := some 147, op := Op.load 3 (Operand.tmp 146), type := 3, pos := "law.go:50", after := #[{ on := 10, ground := Ground.data }, { on := 1, ground := Ground.guard }], guard := some (1, true) }) (v := ?_) rfl (by kernel_rfl) (by kernel_rfl) (by kernel_rfl) (fun _ _ _ h => h) (Or.inl ⟨by kernel_rfl, ?_⟩) hHeld ?_
              rotate_left
              · (intro w hSw; (try dsimp only at hSw); go_simp); try with_reducible rfl
              try simp only [Act.put, List.setIfInBounds_toArray, List.set_cons_zero, List.set_cons_succ]
              refine wpAnyH_ready (rs := [4]) (by kernel_rfl) (by simp) ?_
              refine AllReadyH.cons (o := { dst := some 140, op := Op.call { callee := Callee.value (Operand.func 17), args := #[Operand.tmp 138, Operand.tmp 139], argTypes := #[23, 3] }, type := 33, pos := "law.go:50", after := #[{ on := 2, ground := Ground.data }, { on := 3, ground := Ground.data }, { on := 1, ground := Ground.chain }, { on := 1, ground := Ground.guard }], guard := some (1, true) }) rfl (fun K hK => ?_) AllReadyH.nil
              have hOld := hide hHeld
              clear hHeld
              go_simp
              refine (HSA.out _ HPX.out.drew).mono ?_
              rintro e w7 ⟨rfl, rfl⟩
              (try go_wp2_with fail)
              refine hK.out _ _ (hOld.out) (fun hHeld => ?_)
              clear hK K hOld
              try simp only [Act.put, List.setIfInBounds_toArray, List.set_cons_zero, List.set_cons_succ]
              refine wpAnyH_take (i := 12) (oi := { dst := some 148, op := Op.binOp BinOp.eql 3 (Operand.tmp 140) (Operand.tmp 147) 3, type := 4, pos := "law.go:50", after := #[{ on := 4, ground := Ground.data }, { on := 11, ground := Ground.data }, { on := 1, ground := Ground.guard }], guard := some (1, true) }) (v := ?_) rfl (by kernel_rfl) (by kernel_rfl) (by kernel_rfl) (fun _ _ _ h => h) (Or.inl ⟨by kernel_rfl, ?_⟩) hHeld ?_
              rotate_left
              · (intro w hSw; (try dsimp only at hSw); go_simp); try with_reducible rfl
              try simp only [Act.put, List.setIfInBounds_toArray, List.set_cons_zero, List.set_cons_succ]
              refine wpAnyH_take (i := 13) (oi := { dst := some 149, op := Op.pick (Operand.tmp 137) (Operand.tmp 148) (Operand.const (Value.bool false)), type := 4, pos := "law.go:50", after := #[{ on := 1, ground := Ground.data }, { on := 12, ground := Ground.data }], guard := none }) (v := ?_) rfl (by kernel_rfl) (by kernel_rfl) (by kernel_rfl) (fun _ _ _ h => h) (Or.inl ⟨by kernel_rfl, ?_⟩) hHeld ?_
              rotate_left
              · (intro w hSw; (try dsimp only at hSw); go_simp); try with_reducible rfl
              try simp only [Act.put, List.setIfInBounds_toArray, List.set_cons_zero, List.set_cons_succ]
              refine wpAnyH_take (i := 14) (oi := { dst := some 150, op := Op.move (Operand.tmp 149), type := 4, pos := "law.go:50", after := #[{ on := 13, ground := Ground.data }, { on := 4, ground := Ground.chain }], guard := none }) (v := ?_) rfl (by kernel_rfl) (by kernel_rfl) (by kernel_rfl) (fun _ _ _ h => h) (Or.inl ⟨by kernel_rfl, ?_⟩) hHeld ?_
              rotate_left
              · (intro w hSw; (try dsimp only at hSw); go_simp); try with_reducible rfl
              try simp only [Act.put, List.setIfInBounds_toArray, List.set_cons_zero, List.set_cons_succ]
              refine wpAnyH_take (i := 15) (oi := { dst := some 151, op := Op.move (Operand.tmp 6), type := 23, pos := "law.go:50", after := #[{ on := 14, ground := Ground.guard }], guard := some (14, true) }) (v := ?_) rfl (by kernel_rfl) (by kernel_rfl) (by kernel_rfl) (fun _ _ _ h => h) (Or.inl ⟨by kernel_rfl, ?_⟩) hHeld ?_
              rotate_left
              · (intro w hSw; (try dsimp only at hSw); go_simp); try with_reducible rfl
              try simp only [Act.put, List.setIfInBounds_toArray, List.set_cons_zero, List.set_cons_succ]
              refine wpAnyH_take (i := 16) (oi := { dst := some 152, op := Op.move (Operand.tmp 20), type := 3, pos := "law.go:50", after := #[{ on := 14, ground := Ground.guard }], guard := some (14, true) }) (v := ?_) rfl (by kernel_rfl) (by kernel_rfl) (by kernel_rfl) (fun _ _ _ h => h) (Or.inl ⟨by kernel_rfl, ?_⟩) hHeld ?_
              rotate_left
              · (intro w hSw; (try dsimp only at hSw); go_simp); try with_reducible rfl
              try simp only [Act.put, List.setIfInBounds_toArray, List.set_cons_zero, List.set_cons_succ]
              refine wpAnyH_take (i := 18) (oi := { dst := some 154, op := Op.move (Operand.tmp 8), type := 27, pos := "law.go:50", after := #[{ on := 14, ground := Ground.guard }], guard := some (14, true) }) (v := ?_) rfl (by kernel_rfl) (by kernel_rfl) (by kernel_rfl) (fun _ _ _ h => h) (Or.inl ⟨by kernel_rfl, ?_⟩) hHeld ?_
              rotate_left
              · (intro w hSw; (try dsimp only at hSw); go_simp); try with_reducible rfl
              try simp only [Act.put, List.setIfInBounds_toArray, List.set_cons_zero, List.set_cons_succ]
              refine wpAnyH_take (i := 19) (oi := { dst := some 155, op := Op.nilCheck (Operand.tmp 154), type := 0, pos := "law.go:50", after := #[{ on := 18, ground := Ground.data }, { on := 14, ground := Ground.guard }], guard := some (14, true) }) (v := ?_) rfl (by kernel_rfl) (by kernel_rfl) (by kernel_rfl) (fun _ _ _ h => h) (Or.inl ⟨by kernel_rfl, ?_⟩) hHeld ?_
              rotate_left
              · (intro w hSw; (try dsimp only at hSw); go_simp); try with_reducible rfl
              try simp only [Act.put, List.setIfInBounds_toArray, List.set_cons_zero, List.set_cons_succ]
              refine wpAnyH_take (i := 20) (oi := { dst := some 156, op := Op.fieldAddr 43 (Operand.tmp 155) 1, type := 0, pos := "law.go:50", after := #[{ on := 19, ground := Ground.data }, { on := 14, ground := Ground.guard }], guard := some (14, true) }) (v := ?_) rfl (by kernel_rfl) (by kernel_rfl) (by kernel_rfl) (fun _ _ _ h => h) (Or.inl ⟨by kernel_rfl, ?_⟩) hHeld ?_
              rotate_left
              · (intro w hSw; (try dsimp only at hSw); go_simp); try with_reducible rfl
              try simp only [Act.put, List.setIfInBounds_toArray, List.set_cons_zero, List.set_cons_succ]
              refine wpAnyH_take (i := 21) (oi := { dst := some 157, op := Op.load 41 (Operand.tmp 156), type := 41, pos := "law.go:50", after := #[{ on := 20, ground := Ground.data }, { on := 14, ground := Ground.guard }], guard := some (14, true) }) (v := ?_) rfl (by kernel_rfl) (by kernel_rfl) (by kernel_rfl) (fun _ _ _ h => h) (Or.inl ⟨by kernel_rfl, ?_⟩) hHeld ?_
              rotate_left
              · (intro w hSw; (try dsimp only at hSw); go_simp); try with_reducible rfl
              try simp only [Act.put, List.setIfInBounds_toArray, List.set_cons_zero, List.set_cons_succ]
              refine wpAnyH_take (i := 22) (oi := { dst := some 158, op := Op.move (Operand.tmp 20), type := 3, pos := "law.go:50", after := #[{ on := 14, ground := Ground.guard }], guard := some (14, true) }) (v := ?_) rfl (by kernel_rfl) (by kernel_rfl) (by kernel_rfl) (fun _ _ _ h => h) (Or.inl ⟨by kernel_rfl, ?_⟩) hHeld ?_
              rotate_left
              · (intro w hSw; (try dsimp only at hSw); go_simp); try with_reducible rfl
              try simp only [Act.put, List.setIfInBounds_toArray, List.set_cons_zero, List.set_cons_succ]
              refine wpAnyH_take (i := 23) (oi := { dst := some 159, op := Op.indexAddr 41 (Operand.tmp 157) (Operand.tmp 158), type := 0, pos := "law.go:50", after := #[{ on := 21, ground := Ground.data }, { on := 22, ground := Ground.data }, { on := 14, ground := Ground.guard }], guard := some (14, true) }) (v := ?_) rfl (by kernel_rfl) (by kernel_rfl) (by kernel_rfl) (fun _ _ _ h => h) (Or.inl ⟨by kernel_rfl, ?_⟩) hHeld ?_
              rotate_left
              · (intro w hSw; (try dsimp only at hSw); go_simp); try with_reducible rfl
              try simp only [Act.put, List.setIfInBounds_toArray, List.set_cons_zero, List.set_cons_succ]
              refine wpAnyH_take (i := 24) (oi := { dst := some 160, op := Op.load 3 (Operand.tmp 159), type := 3, pos := "law.go:50", after := #[{ on := 23, ground := Ground.data }, { on := 14, ground := Ground.guard }], guard := some (14, true) }) (v := ?_) rfl (by kernel_rfl) (by kernel_rfl) (by kernel_rfl) (fun _ _ _ h => h) (Or.inl ⟨by kernel_rfl, ?_⟩) hHeld ?_
              rotate_left
              · (intro w hSw; (try dsimp only at hSw); go_simp); try with_reducible rfl
              try simp only [Act.put, List.setIfInBounds_toArray, List.set_cons_zero, List.set_cons_succ]
              refine wpAnyH_ready (rs := [17]) (by kernel_rfl) (by simp) ?_
              refine AllReadyH.cons (o := { dst := some 153, op := Op.call { callee := Callee.value (Operand.func 18), args := #[Operand.tmp 151, Operand.tmp 152], argTypes := #[23, 3] }, type := 3, pos := "law.go:50", after := #[{ on := 15, ground := Ground.data }, { on := 16, ground := Ground.data }, { on := 14, ground := Ground.chain }, { on := 14, ground := Ground.guard }], guard := some (14, true) }) rfl (fun K hK => ?_) AllReadyH.nil
              have hOld := hide hHeld
              clear hHeld
              go_simp
              refine (HWA.out _ HPX.out.drew).mono ?_
              rintro e w7 ⟨rfl, rfl⟩
              (try go_wp2_with fail)
              refine hK.out _ _ (hOld.out) (fun hHeld => ?_)
              clear hK K hOld
              try simp only [Act.put, List.setIfInBounds_toArray, List.set_cons_zero, List.set_cons_succ]
              refine wpAnyH_take (i := 25) (oi := { dst := some 161, op := Op.binOp BinOp.eql 3 (Operand.tmp 153) (Operand.tmp 160) 3, type := 4, pos := "law.go:50", after := #[{ on := 17, ground := Ground.data }, { on := 24, ground := Ground.data }, { on := 14, ground := Ground.guard }], guard := some (14, true) }) (v := ?_) rfl (by kernel_rfl) (by kernel_rfl) (by kernel_rfl) (fun _ _ _ h => h) (Or.inl ⟨by kernel_rfl, ?_⟩) hHeld ?_
              rotate_left
              · (intro w hSw; (try dsimp only at hSw); go_simp); try with_reducible rfl
              try simp only [Act.put, List.setIfInBounds_toArray, List.set_cons_zero, List.set_cons_succ]
              refine wpAnyH_take (i := 26) (oi := { dst := some 162, op := Op.pick (Operand.tmp 150) (Operand.tmp 161) (Operand.const (Value.bool false)), type := 4, pos := "law.go:50", after := #[{ on := 14, ground := Ground.data }, { on := 25, ground := Ground.data }], guard := none }) (v := ?_) rfl (by kernel_rfl) (by kernel_rfl) (by kernel_rfl) (fun _ _ _ h => h) (Or.inl ⟨by kernel_rfl, ?_⟩) hHeld ?_
              rotate_left
              · (intro w hSw; (try dsimp only at hSw); go_simp); try with_reducible rfl
              try simp only [Act.put, List.setIfInBounds_toArray, List.set_cons_zero, List.set_cons_succ]
              refine wpAnyH_take (i := 27) (oi := { dst := some 11, op := Op.assign (Operand.tmp 162), type := 4, pos := "law.go:50", after := #[{ on := 26, ground := Ground.data }, { on := 17, ground := Ground.chain }, { on := 0, ground := Ground.phase }, { on := 1, ground := Ground.phase }, { on := 2, ground := Ground.phase }, { on := 3, ground := Ground.phase }, { on := 4, ground := Ground.phase }, { on := 5, ground := Ground.phase }, { on := 6, ground := Ground.phase }, { on := 7, ground := Ground.phase }, { on := 8, ground := Ground.phase }, { on := 9, ground := Ground.phase }, { on := 10, ground := Ground.phase }, { on := 11, ground := Ground.phase }, { on := 12, ground := Ground.phase }, { on := 13, ground := Ground.phase }, { on := 14, ground := Ground.phase }, { on := 15, ground := Ground.phase }, { on := 16, ground := Ground.phase }, { on := 17, ground := Ground.phase }, { on := 18, ground := Ground.phase }, { on := 19, ground := Ground.phase }, { on := 20, ground := Ground.phase }, { on := 21, ground := Ground.phase }, { on := 22, ground := Ground.phase }, { on := 23, ground := Ground.phase }, { on := 24, ground := Ground.phase }, { on := 25, ground := Ground.phase }, { on := 26, ground := Ground.phase }], guard := none }) (v := ?_) rfl (by kernel_rfl) (by kernel_rfl) (by kernel_rfl) (fun _ _ _ h => h) (Or.inl ⟨by kernel_rfl, ?_⟩) hHeld ?_
              rotate_left
              · (intro w hSw; (try dsimp only at hSw); go_simp); try with_reducible rfl
              try simp only [Act.put, List.setIfInBounds_toArray, List.set_cons_zero, List.set_cons_succ]
              refine wpAnyH_done (by kernel_rfl) ?_ _
              go_wp2_with fail
              go_roundw
              case rel => exact ⟨j + 1, by omega, by go_num, rfl, HPX.out.drew, HRX.out.drew, HBX.out.drew⟩
              case measure => simp [intOf]; omega
            · obtain rfl : j = n := by omega
              clear hp hr hB
              obtain ⟨wq, rfl⟩ : ∃ wq : World, wq = wr := ⟨_, rfl⟩
              go_wp2_with fail
              go_loopw [164, 11] (fun i ok W => ∃ c : Nat, c ≤ 5 ∧ i = .int .i64 c ∧ ok = .bool true ∧ PoolAt W (w.heap.size + 1) w.heap.size M' ∧ RPAt W r s t M' ∧ Below w.heap.size w W) (fun i _ _ => 5 - (intOf i).toNat)
              case atStart => exact ⟨0, by omega, rfl, rfl, HPX.out, HRX.out, HBX.out⟩
              case round =>
                clear HPX HRX HBX
                obtain ⟨c, hc5, rfl, rfl, hp, hr, hB⟩ := hrel
                have HPX := hide hp
                have HRX := hide hr
                have HBX := hide hB
                have hml := hide (show M'.length ≤ 1000000 by have := HM'.out; omega)
                by_cases hlc : c < 5
                · have HC1 := hide (count_any (w.heap.size + 1) w.heap.size M' hml.out c wr hp)
                  have HC2 := hide (fun W hW => rcount_any r s t M' hml.out c W hW)
                  generalize (cntK M' c M'.length : Int) = cc at *
                  clear hp hr hB
                  go_wp2_with fail
                  refine HC1.out.mono ?_
                  rintro e w7 ⟨rfl, hb7⟩
                  have HP7 := hide (HPX.out.below hb7)
                  have HR7 := hide (HRX.out.below hb7)
                  have HB7 := hide (below_trans HBX.out hb7)
                  clear hb7
                  go_wp2_with fail
                  refine (HC2.out _ HR7.out).mono ?_
                  rintro e w8 ⟨rfl, rfl⟩
                  go_wp2_with fail
                  go_roundw
                  case rel => exact ⟨c + 1, by omega, by go_num, rfl, HP7.out, HR7.out, HB7.out⟩
                  case measure => simp [intOf]; omega
                · obtain rfl : c = 5 := by omega
                  have HC1 := hide (spread_any (w.heap.size + 1) w.heap.size M' hml.out wr hp)
                  have HC2 := hide (fun W hW => rspread_any r s t M' HW'.out hml.out W hW)
                  have HS1 := hide (fun W hW => state_out (w.heap.size + 1) w.heap.size M' (j : Int) (by rw [HM'.out]; omega) W hW)
                  have HS2 := hide (fun W hW => state_out (w.heap.size + 1) w.heap.size M' (-1) (by omega) W hW)
                  have HS3 := hide (fun W hW => wear_out (w.heap.size + 1) w.heap.size M' (j : Int) (by rw [HM'.out]; omega) W hW)
                  generalize spreadZ M' = zz at *
                  obtain ⟨lo, hi⟩ := zz
                  simp only at HC1 HC2
                  clear hp hr hB
                  go_wp2_with fail
                  refine HC1.out.mono ?_
                  rintro e w7 ⟨rfl, hb7⟩
                  have HP7 := hide (HPX.out.below hb7)
                  have HR7 := hide (HRX.out.below hb7)
                  have HB7 := hide (below_trans HBX.out hb7)
                  clear hb7
                  go_wp2_with fail
                  refine (HC2.out _ HR7.out).mono ?_
                  rintro e w8 ⟨rfl, rfl⟩
                  go_wp2_with fail
                  refine (HS1.out _ HP7.out).mono ?_
                  rintro e w9 ⟨rfl, rfl⟩
                  go_wp2_with fail
                  refine (HS2.out _ HP7.out).mono ?_
                  rintro e w10 ⟨rfl, rfl⟩
                  go_wp2_with fail
                  refine (HS3.out _ HP7.out).mono ?_
                  rintro e w11 ⟨rfl, rfl⟩
                  go_wp2_with fail
                  go_roundw
                  case rel => exact ⟨k + 1, M', by omega, by go_num, HM'.out, HW'.out, HP7.out, HR7.out, HB7.out⟩
                  case measure => simp [intOf]; omega
      · have hct : my.tmod 5 = 1 := by rw [← y5]; exact hcs
        clear y5 hmy
        as_aux_lemma =>
          have hq := heap_lt HP.out.row
          have hpp := heap_lt HP.out.head
          have hrr := HR0.out
          have hss := HS0.out
          have htt := HT0.out
          have hpb := HPB.out
          have hr9 := heap_lt HR.out.head
          have hs9 := heap_lt HR.out.st
          have ht9 := heap_lt HR.out.we
          have HPA := hide (show PoolAt (wr.alloc (.cells #[.int .i64 xd, .int .i64 xb, .int .i64 xn] 31)) (w.heap.size + 1) w.heap.size M from HP.out.below ((Below.refl _ _).alloc (Nat.le_refl _) _))
          have HRA := hide (show RPAt (wr.alloc (.cells #[.int .i64 xd, .int .i64 xb, .int .i64 xn] 31)) r s t M from HR.out.below ((Below.refl _ _).alloc (Nat.le_refl _) _))
          have HBA := hide (HB.out.alloc HB.out.size (.cells #[.int .i64 xd, .int .i64 xb, .int .i64 xn] 31))
          have hml := hide (show M.length ≤ 1000000 by have := HM.out; omega)
          have HST : Hid ((fun W => W.cell? ⟨wr.heap.size, 0, none⟩ = some (.int .i64 xd) ∧ W.cell? ⟨wr.heap.size, 1, none⟩ = some (.int .i64 xb) ∧ W.cell? ⟨wr.heap.size, 2, none⟩ = some (.int .i64 xn) ∧ wr.heap.size < W.heap.size) (wr.alloc (.cells #[.int .i64 xd, .int .i64 xb, .int .i64 xn] 31)).drew) := hide ⟨by show (wr.alloc _).cell? _ = _; simp [World.cell?_alloc_new], by show (wr.alloc _).cell? _ = _; simp [World.cell?_alloc_new], by show (wr.alloc _).cell? _ = _; simp [World.cell?_alloc_new], by show _ < (wr.alloc _).heap.size; simp⟩
          have HM' := hide (((setE_len M xb xn).2).trans HM.out)
          have HW' := hide (HW.out.worn xb xn)
          have HSC := hide (fun W hW => worn_any (w.heap.size + 1) w.heap.size M xb xn W hW)
          have HRC := hide (fun W hW => rworn_any r s t M hml.out xb xn W hW)
          generalize wornE M xb xn = E at *
          generalize wornL M xb xn = M' at *
          go_upto_region 14 with (fail)
          refine wp_region_held_drew (S := (fun W => W.cell? ⟨wr.heap.size, 0, none⟩ = some (.int .i64 xd) ∧ W.cell? ⟨wr.heap.size, 1, none⟩ = some (.int .i64 xb) ∧ W.cell? ⟨wr.heap.size, 2, none⟩ = some (.int .i64 xn) ∧ wr.heap.size < W.heap.size)) (by kernel_rfl) (HST.out) (fun hHeld => ?_)
          refine wpAnyH_take (i := 0) (oi := { dst := some 78, op := Op.move (Operand.tmp 6), type := 23, pos := "law.go:39", after := #[], guard := none }) (v := ?_) rfl (by kernel_rfl) (by kernel_rfl) (by kernel_rfl) (fun _ _ _ h => h) (Or.inl ⟨by kernel_rfl, ?_⟩) hHeld ?_
          rotate_left
          · (intro w hSw; (try dsimp only at hSw); go_simp); try with_reducible rfl
          try simp only [Act.put, List.setIfInBounds_toArray, List.set_cons_zero, List.set_cons_succ]
          refine wpAnyH_take (i := 1) (oi := { dst := some 79, op := Op.fieldAddr 31 (Operand.tmp 10) 1, type := 0, pos := "law.go:39", after := #[], guard := none }) (v := ?_) rfl (by kernel_rfl) (by kernel_rfl) (by kernel_rfl) (fun _ _ _ h => h) (Or.inl ⟨by kernel_rfl, ?_⟩) hHeld ?_
          rotate_left
          · (intro w hSw; (try dsimp only at hSw); go_simp); try with_reducible rfl
          try simp only [Act.put, List.setIfInBounds_toArray, List.set_cons_zero, List.set_cons_succ]
          refine wpAnyH_take (i := 2) (oi := { dst := some 80, op := Op.load 3 (Operand.tmp 79), type := 3, pos := "law.go:39", after := #[{ on := 1, ground := Ground.data }], guard := none }) (v := ?_) rfl (by kernel_rfl) (by kernel_rfl) (by kernel_rfl) (fun _ _ _ h => h) (Or.inl ⟨by kernel_rfl, ?_⟩) hHeld ?_
          rotate_left
          · (intro w hSw; (try dsimp only at hSw); go_simp); try with_reducible rfl
          try simp only [Act.put, List.setIfInBounds_toArray, List.set_cons_zero, List.set_cons_succ]
          refine wpAnyH_take (i := 3) (oi := { dst := some 81, op := Op.fieldAddr 31 (Operand.tmp 10) 2, type := 0, pos := "law.go:39", after := #[], guard := none }) (v := ?_) rfl (by kernel_rfl) (by kernel_rfl) (by kernel_rfl) (fun _ _ _ h => h) (Or.inl ⟨by kernel_rfl, ?_⟩) hHeld ?_
          rotate_left
          · (intro w hSw; (try dsimp only at hSw); go_simp); try with_reducible rfl
          try simp only [Act.put, List.setIfInBounds_toArray, List.set_cons_zero, List.set_cons_succ]
          refine wpAnyH_take (i := 4) (oi := { dst := some 82, op := Op.load 3 (Operand.tmp 81), type := 3, pos := "law.go:39", after := #[{ on := 3, ground := Ground.data }], guard := none }) (v := ?_) rfl (by kernel_rfl) (by kernel_rfl) (by kernel_rfl) (fun _ _ _ h => h) (Or.inl ⟨by kernel_rfl, ?_⟩) hHeld ?_
          rotate_left
          · (intro w hSw; (try dsimp only at hSw); go_simp); try with_reducible rfl
          try simp only [Act.put, List.setIfInBounds_toArray, List.set_cons_zero, List.set_cons_succ]
          refine wpAnyH_take (i := 6) (oi := { dst := some 84, op := Op.move (Operand.tmp 8), type := 27, pos := "law.go:39", after := #[], guard := none }) (v := ?_) rfl (by kernel_rfl) (by kernel_rfl) (by kernel_rfl) (fun _ _ _ h => h) (Or.inl ⟨by kernel_rfl, ?_⟩) hHeld ?_
          rotate_left
          · (intro w hSw; (try dsimp only at hSw); go_simp); try with_reducible rfl
          try simp only [Act.put, List.setIfInBounds_toArray, List.set_cons_zero, List.set_cons_succ]
          refine wpAnyH_take (i := 7) (oi := { dst := some 85, op := Op.fieldAddr 31 (Operand.tmp 10) 1, type := 0, pos := "law.go:39", after := #[], guard := none }) (v := ?_) rfl (by kernel_rfl) (by kernel_rfl) (by kernel_rfl) (fun _ _ _ h => h) (Or.inl ⟨by kernel_rfl, ?_⟩) hHeld ?_
          rotate_left
          · (intro w hSw; (try dsimp only at hSw); go_simp); try with_reducible rfl
          try simp only [Act.put, List.setIfInBounds_toArray, List.set_cons_zero, List.set_cons_succ]
          refine wpAnyH_take (i := 8) (oi := { dst := some 86, op := Op.load 3 (Operand.tmp 85), type := 3, pos := "law.go:39", after := #[{ on := 7, ground := Ground.data }], guard := none }) (v := ?_) rfl (by kernel_rfl) (by kernel_rfl) (by kernel_rfl) (fun _ _ _ h => h) (Or.inl ⟨by kernel_rfl, ?_⟩) hHeld ?_
          rotate_left
          · (intro w hSw; (try dsimp only at hSw); go_simp); try with_reducible rfl
          try simp only [Act.put, List.setIfInBounds_toArray, List.set_cons_zero, List.set_cons_succ]
          refine wpAnyH_take (i := 9) (oi := { dst := some 87, op := Op.fieldAddr 31 (Operand.tmp 10) 2, type := 0, pos := "law.go:39", after := #[], guard := none }) (v := ?_) rfl (by kernel_rfl) (by kernel_rfl) (by kernel_rfl) (fun _ _ _ h => h) (Or.inl ⟨by kernel_rfl, ?_⟩) hHeld ?_
          rotate_left
          · (intro w hSw; (try dsimp only at hSw); go_simp); try with_reducible rfl
          try simp only [Act.put, List.setIfInBounds_toArray, List.set_cons_zero, List.set_cons_succ]
          refine wpAnyH_take (i := 10) (oi := { dst := some 88, op := Op.load 3 (Operand.tmp 87), type := 3, pos := "law.go:39", after := #[{ on := 9, ground := Ground.data }], guard := none }) (v := ?_) rfl (by kernel_rfl) (by kernel_rfl) (by kernel_rfl) (fun _ _ _ h => h) (Or.inl ⟨by kernel_rfl, ?_⟩) hHeld ?_
          rotate_left
          · (intro w hSw; (try dsimp only at hSw); go_simp); try with_reducible rfl
          try simp only [Act.put, List.setIfInBounds_toArray, List.set_cons_zero, List.set_cons_succ]
          refine wpAnyH_ready (rs := [5]) (by kernel_rfl) (by simp) ?_
          refine AllReadyH.cons (o := { dst := some 83, op := Op.call { callee := Callee.value (Operand.func 12), args := #[Operand.tmp 78, Operand.tmp 80, Operand.tmp 82], argTypes := #[23, 3, 3] }, type := 24, pos := "law.go:39", after := #[{ on := 0, ground := Ground.data }, { on := 2, ground := Ground.data }, { on := 4, ground := Ground.data }], guard := none }) rfl (fun K hK => ?_) AllReadyH.nil
          have hOld := hide hHeld
          clear hHeld
          go_simp
          refine (HSC.out _ HPA.out.drew).mono ?_
          rintro e w5 ⟨rfl, hp5, ho5⟩
          have HP5 := hide hp5
          have HR5 := hide (HRA.out.drew.only ho5 (by omega) (by omega) (by omega))
          have HB5 := hide (ho5.below HBA.out.drew (Nat.le_refl _) HBA.out.size)
          have HK5 := hide (show (fun W => W.cell? ⟨wr.heap.size, 0, none⟩ = some (.int .i64 xd) ∧ W.cell? ⟨wr.heap.size, 1, none⟩ = some (.int .i64 xb) ∧ W.cell? ⟨wr.heap.size, 2, none⟩ = some (.int .i64 xn) ∧ wr.heap.size < W.heap.size) w5 from ⟨(only_cell ho5 hOld.out.2.2.2 (by omega)).trans hOld.out.1, (only_cell ho5 hOld.out.2.2.2 (by omega)).trans hOld.out.2.1, (only_cell ho5 hOld.out.2.2.2 (by omega)).trans hOld.out.2.2.1, Nat.lt_of_lt_of_le hOld.out.2.2.2 ho5.size⟩)
          clear hp5 ho5
          (try go_wp2_with fail)
          refine hK.out _ _ (HK5.out) (fun hHeld => ?_)
          clear hK K hOld
          try simp only [Act.put, List.setIfInBounds_toArray, List.set_cons_zero, List.set_cons_succ]
          refine wpAnyH_ready (rs := [11]) (by kernel_rfl) (by simp) ?_
          refine AllReadyH.cons (o := { dst := some 89, op := Op.call { callee := Callee.value (Operand.func 13), args := #[Operand.tmp 84, Operand.tmp 86, Operand.tmp 88], argTypes := #[27, 3, 3] }, type := 3, pos := "law.go:39", after := #[{ on := 6, ground := Ground.data }, { on := 8, ground := Ground.data }, { on := 10, ground := Ground.data }, { on := 5, ground := Ground.chain }], guard := none }) rfl (fun K hK => ?_) AllReadyH.nil
          have hOld := hide hHeld
          clear hHeld
          go_simp
          refine (HRC.out _ HR5.out).mono ?_
          rintro e w6 ⟨rfl, hr6, ho6⟩
          have HPX := hide (HP5.out.only ho6 (by omega) (by omega))
          have HRX := hide hr6
          have HBX := hide (ho6.below HB5.out (by omega) HB5.out.size)
          have HK6 := hide (show (fun W => W.cell? ⟨wr.heap.size, 0, none⟩ = some (.int .i64 xd) ∧ W.cell? ⟨wr.heap.size, 1, none⟩ = some (.int .i64 xb) ∧ W.cell? ⟨wr.heap.size, 2, none⟩ = some (.int .i64 xn) ∧ wr.heap.size < W.heap.size) w6 from ⟨(only_cell ho6 hOld.out.2.2.2 (by omega)).trans hOld.out.1, (only_cell ho6 hOld.out.2.2.2 (by omega)).trans hOld.out.2.1, (only_cell ho6 hOld.out.2.2.2 (by omega)).trans hOld.out.2.2.1, Nat.lt_of_lt_of_le hOld.out.2.2.2 ho6.size⟩)
          clear hr6 ho6
          (try go_wp2_with fail)
          refine hK.out _ _ (HK6.out) (fun hHeld => ?_)
          clear hK K hOld
          try simp only [Act.put, List.setIfInBounds_toArray, List.set_cons_zero, List.set_cons_succ]
          refine wpAnyH_take (i := 12) (oi := { dst := some 90, op := Op.binOp BinOp.eql 3 (Operand.tmp 83) (Operand.tmp 89) 3, type := 4, pos := "law.go:39", after := #[{ on := 5, ground := Ground.data }, { on := 11, ground := Ground.data }], guard := none }) (v := ?_) rfl (by kernel_rfl) (by kernel_rfl) (by kernel_rfl) (fun _ _ _ h => h) (Or.inl ⟨by kernel_rfl, ?_⟩) hHeld ?_
          rotate_left
          · (intro w hSw; (try dsimp only at hSw); go_simp); try with_reducible rfl
          try simp only [Act.put, List.setIfInBounds_toArray, List.set_cons_zero, List.set_cons_succ]
          refine wpAnyH_take (i := 13) (oi := { dst := some 11, op := Op.assign (Operand.tmp 90), type := 4, pos := "law.go:39", after := #[{ on := 12, ground := Ground.data }, { on := 11, ground := Ground.chain }, { on := 0, ground := Ground.phase }, { on := 1, ground := Ground.phase }, { on := 2, ground := Ground.phase }, { on := 3, ground := Ground.phase }, { on := 4, ground := Ground.phase }, { on := 5, ground := Ground.phase }, { on := 6, ground := Ground.phase }, { on := 7, ground := Ground.phase }, { on := 8, ground := Ground.phase }, { on := 9, ground := Ground.phase }, { on := 10, ground := Ground.phase }, { on := 11, ground := Ground.phase }, { on := 12, ground := Ground.phase }], guard := none }) (v := ?_) rfl (by kernel_rfl) (by kernel_rfl) (by kernel_rfl) (fun _ _ _ h => h) (Or.inl ⟨by kernel_rfl, ?_⟩) hHeld ?_
          rotate_left
          · (intro w hSw; (try dsimp only at hSw); go_simp); try with_reducible rfl
          try simp only [Act.put, List.setIfInBounds_toArray, List.set_cons_zero, List.set_cons_succ]
          refine wpAnyH_done (by kernel_rfl) ?_ _
          clear HP5 HR5 HB5 HK5 HK6 HST HPA HRA HBA HSC HRC hq hpp hrr hss htt hpb hr9 hs9 ht9 hHeld
          clear d0 d1 d2 hbw HP HR HB
          obtain ⟨wo, rfl⟩ : ∃ wo : World, wo = w6 := ⟨_, rfl⟩
          go_wp2_with fail
          go_loopw [133, 11] (fun i ok W => ∃ j : Nat, j ≤ n ∧ i = .int .i64 j ∧ ok = .bool true ∧ PoolAt W (w.heap.size + 1) w.heap.size M' ∧ RPAt W r s t M' ∧ Below w.heap.size w W) (fun i _ _ => n - (intOf i).toNat)
          case atStart => exact ⟨0, by omega, rfl, rfl, HPX.out, HRX.out, HBX.out⟩
          case round =>
            clear HPX HRX HBX
            obtain ⟨j, hj, rfl, rfl, hp, hr, hB⟩ := hrel
            have HPX := hide hp
            have HRX := hide hr
            have HBX := hide hB
            by_cases hlj : j < n
            · obtain ⟨c0, c1⟩ := hr.cells
              obtain ⟨a0, a1, -⟩ := hr.at j (by rw [HM'.out]; exact hlj)
              have HSA := hide (fun W hW => state_at (w.heap.size + 1) w.heap.size M' j (by rw [HM'.out]; exact hlj) W hW)
              have HWA := hide (fun W hW => wear_at (w.heap.size + 1) w.heap.size M' j (by rw [HM'.out]; exact hlj) W hW)
              rw [HM'.out] at c0 c1
              have hj0 : (0 : Int) ≤ j := by omega
              have hjn : (j : Int) < n := by omega
              clear hp hr hB
              generalize (M'.getD j (0, 0)).1 = xx at *
              generalize (M'.getD j (0, 0)).2 = yy at *
              go_wp2_with fail
              have HC0 := hide c0
              have HC1 := hide c1
              have HA0 := hide a0
              have HA1 := hide a1
              clear c0 c1 a0 a1
              refine wp_region_held_drew (S := (fun W => W.cell? ⟨r, 0, none⟩ = some (.slice (some ⟨s, 0, none⟩) n n) ∧ W.cell? ⟨r, 1, none⟩ = some (.slice (some ⟨t, 0, none⟩) n n) ∧ W.cell? ⟨s, j, none⟩ = some (.int .i64 xx) ∧ W.cell? ⟨t, j, none⟩ = some (.int .i64 yy))) (by kernel_rfl) (⟨HC0.out, HC1.out, HA0.out, HA1.out⟩) (fun hHeld => ?_)
              refine wpAnyH_take (i := 0) (oi := { dst := some 136, op := Op.move (Operand.tmp 11), type := 4, pos := "law.go:50", after := #[], guard := none }) (v := ?_) rfl (by kernel_rfl) (by kernel_rfl) (by kernel_rfl) (fun _ _ _ h => h) (Or.inl ⟨by kernel_rfl, ?_⟩) hHeld ?_
              rotate_left
              · (intro w hSw; (try dsimp only at hSw); go_simp); try with_reducible rfl
              try simp only [Act.put, List.setIfInBounds_toArray, List.set_cons_zero, List.set_cons_succ]
              refine wpAnyH_take (i := 1) (oi := { dst := some 137, op := Op.move (Operand.tmp 136), type := 4, pos := "law.go:50", after := #[{ on := 0, ground := Ground.data }], guard := none }) (v := ?_) rfl (by kernel_rfl) (by kernel_rfl) (by kernel_rfl) (fun _ _ _ h => h) (Or.inl ⟨by kernel_rfl, ?_⟩) hHeld ?_
              rotate_left
              · (intro w hSw; (try dsimp only at hSw); go_simp); try with_reducible rfl
              try simp only [Act.put, List.setIfInBounds_toArray, List.set_cons_zero, List.set_cons_succ]
              refine wpAnyH_take (i := 2) (oi := { dst := some 138, op := Op.move (Operand.tmp 6), type := 23, pos := "law.go:50", after := #[{ on := 1, ground := Ground.guard }], guard := some (1, true) }) (v := ?_) rfl (by kernel_rfl) (by kernel_rfl) (by kernel_rfl) (fun _ _ _ h => h) (Or.inl ⟨by kernel_rfl, ?_⟩) hHeld ?_
              rotate_left
              · (intro w hSw; (try dsimp only at hSw); go_simp); try with_reducible rfl
              try simp only [Act.put, List.setIfInBounds_toArray, List.set_cons_zero, List.set_cons_succ]
              refine wpAnyH_take (i := 3) (oi := { dst := some 139, op := Op.move (Operand.tmp 20), type := 3, pos := "law.go:50", after := #[{ on := 1, ground := Ground.guard }], guard := some (1, true) }) (v := ?_) rfl (by kernel_rfl) (by kernel_rfl) (by kernel_rfl) (fun _ _ _ h => h) (Or.inl ⟨by kernel_rfl, ?_⟩) hHeld ?_
              rotate_left
              · (intro w hSw; (try dsimp only at hSw); go_simp); try with_reducible rfl
              try simp only [Act.put, List.setIfInBounds_toArray, List.set_cons_zero, List.set_cons_succ]
              refine wpAnyH_take (i := 5) (oi := { dst := some 141, op := Op.move (Operand.tmp 8), type := 27, pos := "law.go:50", after := #[{ on := 1, ground := Ground.guard }], guard := some (1, true) }) (v := ?_) rfl (by kernel_rfl) (by kernel_rfl) (by kernel_rfl) (fun _ _ _ h => h) (Or.inl ⟨by kernel_rfl, ?_⟩) hHeld ?_
              rotate_left
              · (intro w hSw; (try dsimp only at hSw); go_simp); try with_reducible rfl
              try simp only [Act.put, List.setIfInBounds_toArray, List.set_cons_zero, List.set_cons_succ]
              refine wpAnyH_take (i := 6) (oi := { dst := some 142, op := Op.nilCheck (Operand.tmp 141), type := 0, pos := "law.go:50", after := #[{ on := 5, ground := Ground.data }, { on := 1, ground := Ground.guard }], guard := some (1, true) }) (v := ?_) rfl (by kernel_rfl) (by kernel_rfl) (by kernel_rfl) (fun _ _ _ h => h) (Or.inl ⟨by kernel_rfl, ?_⟩) hHeld ?_
              rotate_left
              · (intro w hSw; (try dsimp only at hSw); go_simp); try with_reducible rfl
              try simp only [Act.put, List.setIfInBounds_toArray, List.set_cons_zero, List.set_cons_succ]
              refine wpAnyH_take (i := 7) (oi := { dst := some 143, op := Op.fieldAddr 43 (Operand.tmp 142) 0, type := 0, pos := "law.go:50", after := #[{ on := 6, ground := Ground.data }, { on := 1, ground := Ground.guard }], guard := some (1, true) }) (v := ?_) rfl (by kernel_rfl) (by kernel_rfl) (by kernel_rfl) (fun _ _ _ h => h) (Or.inl ⟨by kernel_rfl, ?_⟩) hHeld ?_
              rotate_left
              · (intro w hSw; (try dsimp only at hSw); go_simp); try with_reducible rfl
              try simp only [Act.put, List.setIfInBounds_toArray, List.set_cons_zero, List.set_cons_succ]
              refine wpAnyH_take (i := 8) (oi := { dst := some 144, op := Op.load 41 (Operand.tmp 143), type := 41, pos := "law.go:50", after := #[{ on := 7, ground := Ground.data }, { on := 1, ground := Ground.guard }], guard := some (1, true) }) (v := ?_) rfl (by kernel_rfl) (by kernel_rfl) (by kernel_rfl) (fun _ _ _ h => h) (Or.inl ⟨by kernel_rfl, ?_⟩) hHeld ?_
              rotate_left
              · (intro w hSw; (try dsimp only at hSw); go_simp); try with_reducible rfl
              try simp only [Act.put, List.setIfInBounds_toArray, List.set_cons_zero, List.set_cons_succ]
              refine wpAnyH_take (i := 9) (oi := { dst := some 145, op := Op.move (Operand.tmp 20), type := 3, pos := "law.go:50", after := #[{ on := 1, ground := Ground.guard }], guard := some (1, true) }) (v := ?_) rfl (by kernel_rfl) (by kernel_rfl) (by kernel_rfl) (fun _ _ _ h => h) (Or.inl ⟨by kernel_rfl, ?_⟩) hHeld ?_
              rotate_left
              · (intro w hSw; (try dsimp only at hSw); go_simp); try with_reducible rfl
              try simp only [Act.put, List.setIfInBounds_toArray, List.set_cons_zero, List.set_cons_succ]
              refine wpAnyH_take (i := 10) (oi := { dst := some 146, op := Op.indexAddr 41 (Operand.tmp 144) (Operand.tmp 145), type := 0, pos := "law.go:50", after := #[{ on := 8, ground := Ground.data }, { on := 9, ground := Ground.data }, { on := 1, ground := Ground.guard }], guard := some (1, true) }) (v := ?_) rfl (by kernel_rfl) (by kernel_rfl) (by kernel_rfl) (fun _ _ _ h => h) (Or.inl ⟨by kernel_rfl, ?_⟩) hHeld ?_
              rotate_left
              · (intro w hSw; (try dsimp only at hSw); go_simp); try with_reducible rfl
              try simp only [Act.put, List.setIfInBounds_toArray, List.set_cons_zero, List.set_cons_succ]
              refine wpAnyH_take (i := 11) (oi := { dst := some 147, op := Op.load 3 (Operand.tmp 146), type := 3, pos := "law.go:50", after := #[{ on := 10, ground := Ground.data }, { on := 1, ground := Ground.guard }], guard := some (1, true) }) (v := ?_) rfl (by kernel_rfl) (by kernel_rfl) (by kernel_rfl) (fun _ _ _ h => h) (Or.inl ⟨by kernel_rfl, ?_⟩) hHeld ?_
              rotate_left
              · (intro w hSw; (try dsimp only at hSw); go_simp); try with_reducible rfl
              try simp only [Act.put, List.setIfInBounds_toArray, List.set_cons_zero, List.set_cons_succ]
              refine wpAnyH_ready (rs := [4]) (by kernel_rfl) (by simp) ?_
              refine AllReadyH.cons (o := { dst := some 140, op := Op.call { callee := Callee.value (Operand.func 17), args := #[Operand.tmp 138, Operand.tmp 139], argTypes := #[23, 3] }, type := 33, pos := "law.go:50", after := #[{ on := 2, ground := Ground.data }, { on := 3, ground := Ground.data }, { on := 1, ground := Ground.chain }, { on := 1, ground := Ground.guard }], guard := some (1, true) }) rfl (fun K hK => ?_) AllReadyH.nil
              have hOld := hide hHeld
              clear hHeld
              go_simp
              refine (HSA.out _ HPX.out.drew).mono ?_
              rintro e w7 ⟨rfl, rfl⟩
              (try go_wp2_with fail)
              refine hK.out _ _ (hOld.out) (fun hHeld => ?_)
              clear hK K hOld
              try simp only [Act.put, List.setIfInBounds_toArray, List.set_cons_zero, List.set_cons_succ]
              refine wpAnyH_take (i := 12) (oi := { dst := some 148, op := Op.binOp BinOp.eql 3 (Operand.tmp 140) (Operand.tmp 147) 3, type := 4, pos := "law.go:50", after := #[{ on := 4, ground := Ground.data }, { on := 11, ground := Ground.data }, { on := 1, ground := Ground.guard }], guard := some (1, true) }) (v := ?_) rfl (by kernel_rfl) (by kernel_rfl) (by kernel_rfl) (fun _ _ _ h => h) (Or.inl ⟨by kernel_rfl, ?_⟩) hHeld ?_
              rotate_left
              · (intro w hSw; (try dsimp only at hSw); go_simp); try with_reducible rfl
              try simp only [Act.put, List.setIfInBounds_toArray, List.set_cons_zero, List.set_cons_succ]
              refine wpAnyH_take (i := 13) (oi := { dst := some 149, op := Op.pick (Operand.tmp 137) (Operand.tmp 148) (Operand.const (Value.bool false)), type := 4, pos := "law.go:50", after := #[{ on := 1, ground := Ground.data }, { on := 12, ground := Ground.data }], guard := none }) (v := ?_) rfl (by kernel_rfl) (by kernel_rfl) (by kernel_rfl) (fun _ _ _ h => h) (Or.inl ⟨by kernel_rfl, ?_⟩) hHeld ?_
              rotate_left
              · (intro w hSw; (try dsimp only at hSw); go_simp); try with_reducible rfl
              try simp only [Act.put, List.setIfInBounds_toArray, List.set_cons_zero, List.set_cons_succ]
              refine wpAnyH_take (i := 14) (oi := { dst := some 150, op := Op.move (Operand.tmp 149), type := 4, pos := "law.go:50", after := #[{ on := 13, ground := Ground.data }, { on := 4, ground := Ground.chain }], guard := none }) (v := ?_) rfl (by kernel_rfl) (by kernel_rfl) (by kernel_rfl) (fun _ _ _ h => h) (Or.inl ⟨by kernel_rfl, ?_⟩) hHeld ?_
              rotate_left
              · (intro w hSw; (try dsimp only at hSw); go_simp); try with_reducible rfl
              try simp only [Act.put, List.setIfInBounds_toArray, List.set_cons_zero, List.set_cons_succ]
              refine wpAnyH_take (i := 15) (oi := { dst := some 151, op := Op.move (Operand.tmp 6), type := 23, pos := "law.go:50", after := #[{ on := 14, ground := Ground.guard }], guard := some (14, true) }) (v := ?_) rfl (by kernel_rfl) (by kernel_rfl) (by kernel_rfl) (fun _ _ _ h => h) (Or.inl ⟨by kernel_rfl, ?_⟩) hHeld ?_
              rotate_left
              · (intro w hSw; (try dsimp only at hSw); go_simp); try with_reducible rfl
              try simp only [Act.put, List.setIfInBounds_toArray, List.set_cons_zero, List.set_cons_succ]
              refine wpAnyH_take (i := 16) (oi := { dst := some 152, op := Op.move (Operand.tmp 20), type := 3, pos := "law.go:50", after := #[{ on := 14, ground := Ground.guard }], guard := some (14, true) }) (v := ?_) rfl (by kernel_rfl) (by kernel_rfl) (by kernel_rfl) (fun _ _ _ h => h) (Or.inl ⟨by kernel_rfl, ?_⟩) hHeld ?_
              rotate_left
              · (intro w hSw; (try dsimp only at hSw); go_simp); try with_reducible rfl
              try simp only [Act.put, List.setIfInBounds_toArray, List.set_cons_zero, List.set_cons_succ]
              refine wpAnyH_take (i := 18) (oi := { dst := some 154, op := Op.move (Operand.tmp 8), type := 27, pos := "law.go:50", after := #[{ on := 14, ground := Ground.guard }], guard := some (14, true) }) (v := ?_) rfl (by kernel_rfl) (by kernel_rfl) (by kernel_rfl) (fun _ _ _ h => h) (Or.inl ⟨by kernel_rfl, ?_⟩) hHeld ?_
              rotate_left
              · (intro w hSw; (try dsimp only at hSw); go_simp); try with_reducible rfl
              try simp only [Act.put, List.setIfInBounds_toArray, List.set_cons_zero, List.set_cons_succ]
              refine wpAnyH_take (i := 19) (oi := { dst := some 155, op := Op.nilCheck (Operand.tmp 154), type := 0, pos := "law.go:50", after := #[{ on := 18, ground := Ground.data }, { on := 14, ground := Ground.guard }], guard := some (14, true) }) (v := ?_) rfl (by kernel_rfl) (by kernel_rfl) (by kernel_rfl) (fun _ _ _ h => h) (Or.inl ⟨by kernel_rfl, ?_⟩) hHeld ?_
              rotate_left
              · (intro w hSw; (try dsimp only at hSw); go_simp); try with_reducible rfl
              try simp only [Act.put, List.setIfInBounds_toArray, List.set_cons_zero, List.set_cons_succ]
              refine wpAnyH_take (i := 20) (oi := { dst := some 156, op := Op.fieldAddr 43 (Operand.tmp 155) 1, type := 0, pos := "law.go:50", after := #[{ on := 19, ground := Ground.data }, { on := 14, ground := Ground.guard }], guard := some (14, true) }) (v := ?_) rfl (by kernel_rfl) (by kernel_rfl) (by kernel_rfl) (fun _ _ _ h => h) (Or.inl ⟨by kernel_rfl, ?_⟩) hHeld ?_
              rotate_left
              · (intro w hSw; (try dsimp only at hSw); go_simp); try with_reducible rfl
              try simp only [Act.put, List.setIfInBounds_toArray, List.set_cons_zero, List.set_cons_succ]
              refine wpAnyH_take (i := 21) (oi := { dst := some 157, op := Op.load 41 (Operand.tmp 156), type := 41, pos := "law.go:50", after := #[{ on := 20, ground := Ground.data }, { on := 14, ground := Ground.guard }], guard := some (14, true) }) (v := ?_) rfl (by kernel_rfl) (by kernel_rfl) (by kernel_rfl) (fun _ _ _ h => h) (Or.inl ⟨by kernel_rfl, ?_⟩) hHeld ?_
              rotate_left
              · (intro w hSw; (try dsimp only at hSw); go_simp); try with_reducible rfl
              try simp only [Act.put, List.setIfInBounds_toArray, List.set_cons_zero, List.set_cons_succ]
              refine wpAnyH_take (i := 22) (oi := { dst := some 158, op := Op.move (Operand.tmp 20), type := 3, pos := "law.go:50", after := #[{ on := 14, ground := Ground.guard }], guard := some (14, true) }) (v := ?_) rfl (by kernel_rfl) (by kernel_rfl) (by kernel_rfl) (fun _ _ _ h => h) (Or.inl ⟨by kernel_rfl, ?_⟩) hHeld ?_
              rotate_left
              · (intro w hSw; (try dsimp only at hSw); go_simp); try with_reducible rfl
              try simp only [Act.put, List.setIfInBounds_toArray, List.set_cons_zero, List.set_cons_succ]
              refine wpAnyH_take (i := 23) (oi := { dst := some 159, op := Op.indexAddr 41 (Operand.tmp 157) (Operand.tmp 158), type := 0, pos := "law.go:50", after := #[{ on := 21, ground := Ground.data }, { on := 22, ground := Ground.data }, { on := 14, ground := Ground.guard }], guard := some (14, true) }) (v := ?_) rfl (by kernel_rfl) (by kernel_rfl) (by kernel_rfl) (fun _ _ _ h => h) (Or.inl ⟨by kernel_rfl, ?_⟩) hHeld ?_
              rotate_left
              · (intro w hSw; (try dsimp only at hSw); go_simp); try with_reducible rfl
              try simp only [Act.put, List.setIfInBounds_toArray, List.set_cons_zero, List.set_cons_succ]
              refine wpAnyH_take (i := 24) (oi := { dst := some 160, op := Op.load 3 (Operand.tmp 159), type := 3, pos := "law.go:50", after := #[{ on := 23, ground := Ground.data }, { on := 14, ground := Ground.guard }], guard := some (14, true) }) (v := ?_) rfl (by kernel_rfl) (by kernel_rfl) (by kernel_rfl) (fun _ _ _ h => h) (Or.inl ⟨by kernel_rfl, ?_⟩) hHeld ?_
              rotate_left
              · (intro w hSw; (try dsimp only at hSw); go_simp); try with_reducible rfl
              try simp only [Act.put, List.setIfInBounds_toArray, List.set_cons_zero, List.set_cons_succ]
              refine wpAnyH_ready (rs := [17]) (by kernel_rfl) (by simp) ?_
              refine AllReadyH.cons (o := { dst := some 153, op := Op.call { callee := Callee.value (Operand.func 18), args := #[Operand.tmp 151, Operand.tmp 152], argTypes := #[23, 3] }, type := 3, pos := "law.go:50", after := #[{ on := 15, ground := Ground.data }, { on := 16, ground := Ground.data }, { on := 14, ground := Ground.chain }, { on := 14, ground := Ground.guard }], guard := some (14, true) }) rfl (fun K hK => ?_) AllReadyH.nil
              have hOld := hide hHeld
              clear hHeld
              go_simp
              refine (HWA.out _ HPX.out.drew).mono ?_
              rintro e w7 ⟨rfl, rfl⟩
              (try go_wp2_with fail)
              refine hK.out _ _ (hOld.out) (fun hHeld => ?_)
              clear hK K hOld
              try simp only [Act.put, List.setIfInBounds_toArray, List.set_cons_zero, List.set_cons_succ]
              refine wpAnyH_take (i := 25) (oi := { dst := some 161, op := Op.binOp BinOp.eql 3 (Operand.tmp 153) (Operand.tmp 160) 3, type := 4, pos := "law.go:50", after := #[{ on := 17, ground := Ground.data }, { on := 24, ground := Ground.data }, { on := 14, ground := Ground.guard }], guard := some (14, true) }) (v := ?_) rfl (by kernel_rfl) (by kernel_rfl) (by kernel_rfl) (fun _ _ _ h => h) (Or.inl ⟨by kernel_rfl, ?_⟩) hHeld ?_
              rotate_left
              · (intro w hSw; (try dsimp only at hSw); go_simp); try with_reducible rfl
              try simp only [Act.put, List.setIfInBounds_toArray, List.set_cons_zero, List.set_cons_succ]
              refine wpAnyH_take (i := 26) (oi := { dst := some 162, op := Op.pick (Operand.tmp 150) (Operand.tmp 161) (Operand.const (Value.bool false)), type := 4, pos := "law.go:50", after := #[{ on := 14, ground := Ground.data }, { on := 25, ground := Ground.data }], guard := none }) (v := ?_) rfl (by kernel_rfl) (by kernel_rfl) (by kernel_rfl) (fun _ _ _ h => h) (Or.inl ⟨by kernel_rfl, ?_⟩) hHeld ?_
              rotate_left
              · (intro w hSw; (try dsimp only at hSw); go_simp); try with_reducible rfl
              try simp only [Act.put, List.setIfInBounds_toArray, List.set_cons_zero, List.set_cons_succ]
              refine wpAnyH_take (i := 27) (oi := { dst := some 11, op := Op.assign (Operand.tmp 162), type := 4, pos := "law.go:50", after := #[{ on := 26, ground := Ground.data }, { on := 17, ground := Ground.chain }, { on := 0, ground := Ground.phase }, { on := 1, ground := Ground.phase }, { on := 2, ground := Ground.phase }, { on := 3, ground := Ground.phase }, { on := 4, ground := Ground.phase }, { on := 5, ground := Ground.phase }, { on := 6, ground := Ground.phase }, { on := 7, ground := Ground.phase }, { on := 8, ground := Ground.phase }, { on := 9, ground := Ground.phase }, { on := 10, ground := Ground.phase }, { on := 11, ground := Ground.phase }, { on := 12, ground := Ground.phase }, { on := 13, ground := Ground.phase }, { on := 14, ground := Ground.phase }, { on := 15, ground := Ground.phase }, { on := 16, ground := Ground.phase }, { on := 17, ground := Ground.phase }, { on := 18, ground := Ground.phase }, { on := 19, ground := Ground.phase }, { on := 20, ground := Ground.phase }, { on := 21, ground := Ground.phase }, { on := 22, ground := Ground.phase }, { on := 23, ground := Ground.phase }, { on := 24, ground := Ground.phase }, { on := 25, ground := Ground.phase }, { on := 26, ground := Ground.phase }], guard := none }) (v := ?_) rfl (by kernel_rfl) (by kernel_rfl) (by kernel_rfl) (fun _ _ _ h => h) (Or.inl ⟨by kernel_rfl, ?_⟩) hHeld ?_
              rotate_left
              · (intro w hSw; (try dsimp only at hSw); go_simp); try with_reducible rfl
              try simp only [Act.put, List.setIfInBounds_toArray, List.set_cons_zero, List.set_cons_succ]
              refine wpAnyH_done (by kernel_rfl) ?_ _
              go_wp2_with fail
              go_roundw
              case rel => exact ⟨j + 1, by omega, by go_num, rfl, HPX.out.drew, HRX.out.drew, HBX.out.drew⟩
              case measure => simp [intOf]; omega
            · obtain rfl : j = n := by omega
              clear hp hr hB
              obtain ⟨wq, rfl⟩ : ∃ wq : World, wq = wr := ⟨_, rfl⟩
              go_wp2_with fail
              go_loopw [164, 11] (fun i ok W => ∃ c : Nat, c ≤ 5 ∧ i = .int .i64 c ∧ ok = .bool true ∧ PoolAt W (w.heap.size + 1) w.heap.size M' ∧ RPAt W r s t M' ∧ Below w.heap.size w W) (fun i _ _ => 5 - (intOf i).toNat)
              case atStart => exact ⟨0, by omega, rfl, rfl, HPX.out, HRX.out, HBX.out⟩
              case round =>
                clear HPX HRX HBX
                obtain ⟨c, hc5, rfl, rfl, hp, hr, hB⟩ := hrel
                have HPX := hide hp
                have HRX := hide hr
                have HBX := hide hB
                have hml := hide (show M'.length ≤ 1000000 by have := HM'.out; omega)
                by_cases hlc : c < 5
                · have HC1 := hide (count_any (w.heap.size + 1) w.heap.size M' hml.out c wr hp)
                  have HC2 := hide (fun W hW => rcount_any r s t M' hml.out c W hW)
                  generalize (cntK M' c M'.length : Int) = cc at *
                  clear hp hr hB
                  go_wp2_with fail
                  refine HC1.out.mono ?_
                  rintro e w7 ⟨rfl, hb7⟩
                  have HP7 := hide (HPX.out.below hb7)
                  have HR7 := hide (HRX.out.below hb7)
                  have HB7 := hide (below_trans HBX.out hb7)
                  clear hb7
                  go_wp2_with fail
                  refine (HC2.out _ HR7.out).mono ?_
                  rintro e w8 ⟨rfl, rfl⟩
                  go_wp2_with fail
                  go_roundw
                  case rel => exact ⟨c + 1, by omega, by go_num, rfl, HP7.out, HR7.out, HB7.out⟩
                  case measure => simp [intOf]; omega
                · obtain rfl : c = 5 := by omega
                  have HC1 := hide (spread_any (w.heap.size + 1) w.heap.size M' hml.out wr hp)
                  have HC2 := hide (fun W hW => rspread_any r s t M' HW'.out hml.out W hW)
                  have HS1 := hide (fun W hW => state_out (w.heap.size + 1) w.heap.size M' (j : Int) (by rw [HM'.out]; omega) W hW)
                  have HS2 := hide (fun W hW => state_out (w.heap.size + 1) w.heap.size M' (-1) (by omega) W hW)
                  have HS3 := hide (fun W hW => wear_out (w.heap.size + 1) w.heap.size M' (j : Int) (by rw [HM'.out]; omega) W hW)
                  generalize spreadZ M' = zz at *
                  obtain ⟨lo, hi⟩ := zz
                  simp only at HC1 HC2
                  clear hp hr hB
                  go_wp2_with fail
                  refine HC1.out.mono ?_
                  rintro e w7 ⟨rfl, hb7⟩
                  have HP7 := hide (HPX.out.below hb7)
                  have HR7 := hide (HRX.out.below hb7)
                  have HB7 := hide (below_trans HBX.out hb7)
                  clear hb7
                  go_wp2_with fail
                  refine (HC2.out _ HR7.out).mono ?_
                  rintro e w8 ⟨rfl, rfl⟩
                  go_wp2_with fail
                  refine (HS1.out _ HP7.out).mono ?_
                  rintro e w9 ⟨rfl, rfl⟩
                  go_wp2_with fail
                  refine (HS2.out _ HP7.out).mono ?_
                  rintro e w10 ⟨rfl, rfl⟩
                  go_wp2_with fail
                  refine (HS3.out _ HP7.out).mono ?_
                  rintro e w11 ⟨rfl, rfl⟩
                  go_wp2_with fail
                  go_roundw
                  case rel => exact ⟨k + 1, M', by omega, by go_num, HM'.out, HW'.out, HP7.out, HR7.out, HB7.out⟩
                  case measure => simp [intOf]; omega
      · have hct : my.tmod 5 = 2 := by rw [← y5]; exact hcs
        clear y5 hmy
        as_aux_lemma =>
          have hq := heap_lt HP.out.row
          have hpp := heap_lt HP.out.head
          have hrr := HR0.out
          have hss := HS0.out
          have htt := HT0.out
          have hpb := HPB.out
          have hr9 := heap_lt HR.out.head
          have hs9 := heap_lt HR.out.st
          have ht9 := heap_lt HR.out.we
          have HPA := hide (show PoolAt (wr.alloc (.cells #[.int .i64 xd, .int .i64 xb, .int .i64 xn] 31)) (w.heap.size + 1) w.heap.size M from HP.out.below ((Below.refl _ _).alloc (Nat.le_refl _) _))
          have HRA := hide (show RPAt (wr.alloc (.cells #[.int .i64 xd, .int .i64 xb, .int .i64 xn] 31)) r s t M from HR.out.below ((Below.refl _ _).alloc (Nat.le_refl _) _))
          have HBA := hide (HB.out.alloc HB.out.size (.cells #[.int .i64 xd, .int .i64 xb, .int .i64 xn] 31))
          have hml := hide (show M.length ≤ 1000000 by have := HM.out; omega)
          have HM' := hide ((takeL_len false M).trans HM.out)
          have HW' := hide (HW.out.take false)
          have HTK := hide (take_any (w.heap.size + 1) w.heap.size M hml.out _ HPA.out)
          have HRT := hide (fun W hW => rtake_any false r s t M hml.out W hW)
          generalize takeZ false M = zz at *
          obtain ⟨zk, ze⟩ := zz
          simp only at HTK HRT
          generalize hll : takeL false M = M' at *
          clear hll
          go_wp2_with fail
          refine HTK.out.mono ?_
          rintro e w5 ⟨rfl, hp5, ho5⟩
          have HP5 := hide hp5
          have HR5 := hide (HRA.out.only ho5 (by omega) (by omega) (by omega))
          have HB5 := hide (ho5.below HBA.out (Nat.le_refl _) HBA.out.size)
          clear hp5 ho5 HTK
          go_wp2_with fail
          refine (HRT.out _ HR5.out).mono ?_
          rintro e w6 ⟨rfl, hr6, ho6⟩
          have HPX := hide (HP5.out.only ho6 (by omega) (by omega))
          have HRX := hide hr6
          have HBX := hide (ho6.below HB5.out (by omega) HB5.out.size)
          clear hr6 ho6 HP5 HR5 HB5 HPA HRA HBA hq hpp hrr hss htt hpb hr9 hs9 ht9 HRT
          clear d0 d1 d2 hbw HP HR HB
          obtain ⟨wo, rfl⟩ : ∃ wo : World, wo = w6 := ⟨_, rfl⟩
          go_wp2_with fail
          go_loopw [133, 11] (fun i ok W => ∃ j : Nat, j ≤ n ∧ i = .int .i64 j ∧ ok = .bool true ∧ PoolAt W (w.heap.size + 1) w.heap.size M' ∧ RPAt W r s t M' ∧ Below w.heap.size w W) (fun i _ _ => n - (intOf i).toNat)
          case atStart => exact ⟨0, by omega, rfl, rfl, HPX.out, HRX.out, HBX.out⟩
          case round =>
            clear HPX HRX HBX
            obtain ⟨j, hj, rfl, rfl, hp, hr, hB⟩ := hrel
            have HPX := hide hp
            have HRX := hide hr
            have HBX := hide hB
            by_cases hlj : j < n
            · obtain ⟨c0, c1⟩ := hr.cells
              obtain ⟨a0, a1, -⟩ := hr.at j (by rw [HM'.out]; exact hlj)
              have HSA := hide (fun W hW => state_at (w.heap.size + 1) w.heap.size M' j (by rw [HM'.out]; exact hlj) W hW)
              have HWA := hide (fun W hW => wear_at (w.heap.size + 1) w.heap.size M' j (by rw [HM'.out]; exact hlj) W hW)
              rw [HM'.out] at c0 c1
              have hj0 : (0 : Int) ≤ j := by omega
              have hjn : (j : Int) < n := by omega
              clear hp hr hB
              generalize (M'.getD j (0, 0)).1 = xx at *
              generalize (M'.getD j (0, 0)).2 = yy at *
              go_wp2_with fail
              have HC0 := hide c0
              have HC1 := hide c1
              have HA0 := hide a0
              have HA1 := hide a1
              clear c0 c1 a0 a1
              refine wp_region_held_drew (S := (fun W => W.cell? ⟨r, 0, none⟩ = some (.slice (some ⟨s, 0, none⟩) n n) ∧ W.cell? ⟨r, 1, none⟩ = some (.slice (some ⟨t, 0, none⟩) n n) ∧ W.cell? ⟨s, j, none⟩ = some (.int .i64 xx) ∧ W.cell? ⟨t, j, none⟩ = some (.int .i64 yy))) (by kernel_rfl) (⟨HC0.out, HC1.out, HA0.out, HA1.out⟩) (fun hHeld => ?_)
              refine wpAnyH_take (i := 0) (oi := { dst := some 136, op := Op.move (Operand.tmp 11), type := 4, pos := "law.go:50", after := #[], guard := none }) (v := ?_) rfl (by kernel_rfl) (by kernel_rfl) (by kernel_rfl) (fun _ _ _ h => h) (Or.inl ⟨by kernel_rfl, ?_⟩) hHeld ?_
              rotate_left
              · (intro w hSw; (try dsimp only at hSw); go_simp); try with_reducible rfl
              try simp only [Act.put, List.setIfInBounds_toArray, List.set_cons_zero, List.set_cons_succ]
              refine wpAnyH_take (i := 1) (oi := { dst := some 137, op := Op.move (Operand.tmp 136), type := 4, pos := "law.go:50", after := #[{ on := 0, ground := Ground.data }], guard := none }) (v := ?_) rfl (by kernel_rfl) (by kernel_rfl) (by kernel_rfl) (fun _ _ _ h => h) (Or.inl ⟨by kernel_rfl, ?_⟩) hHeld ?_
              rotate_left
              · (intro w hSw; (try dsimp only at hSw); go_simp); try with_reducible rfl
              try simp only [Act.put, List.setIfInBounds_toArray, List.set_cons_zero, List.set_cons_succ]
              refine wpAnyH_take (i := 2) (oi := { dst := some 138, op := Op.move (Operand.tmp 6), type := 23, pos := "law.go:50", after := #[{ on := 1, ground := Ground.guard }], guard := some (1, true) }) (v := ?_) rfl (by kernel_rfl) (by kernel_rfl) (by kernel_rfl) (fun _ _ _ h => h) (Or.inl ⟨by kernel_rfl, ?_⟩) hHeld ?_
              rotate_left
              · (intro w hSw; (try dsimp only at hSw); go_simp); try with_reducible rfl
              try simp only [Act.put, List.setIfInBounds_toArray, List.set_cons_zero, List.set_cons_succ]
              refine wpAnyH_take (i := 3) (oi := { dst := some 139, op := Op.move (Operand.tmp 20), type := 3, pos := "law.go:50", after := #[{ on := 1, ground := Ground.guard }], guard := some (1, true) }) (v := ?_) rfl (by kernel_rfl) (by kernel_rfl) (by kernel_rfl) (fun _ _ _ h => h) (Or.inl ⟨by kernel_rfl, ?_⟩) hHeld ?_
              rotate_left
              · (intro w hSw; (try dsimp only at hSw); go_simp); try with_reducible rfl
              try simp only [Act.put, List.setIfInBounds_toArray, List.set_cons_zero, List.set_cons_succ]
              refine wpAnyH_take (i := 5) (oi := { dst := some 141, op := Op.move (Operand.tmp 8), type := 27, pos := "law.go:50", after := #[{ on := 1, ground := Ground.guard }], guard := some (1, true) }) (v := ?_) rfl (by kernel_rfl) (by kernel_rfl) (by kernel_rfl) (fun _ _ _ h => h) (Or.inl ⟨by kernel_rfl, ?_⟩) hHeld ?_
              rotate_left
              · (intro w hSw; (try dsimp only at hSw); go_simp); try with_reducible rfl
              try simp only [Act.put, List.setIfInBounds_toArray, List.set_cons_zero, List.set_cons_succ]
              refine wpAnyH_take (i := 6) (oi := { dst := some 142, op := Op.nilCheck (Operand.tmp 141), type := 0, pos := "law.go:50", after := #[{ on := 5, ground := Ground.data }, { on := 1, ground := Ground.guard }], guard := some (1, true) }) (v := ?_) rfl (by kernel_rfl) (by kernel_rfl) (by kernel_rfl) (fun _ _ _ h => h) (Or.inl ⟨by kernel_rfl, ?_⟩) hHeld ?_
              rotate_left
              · (intro w hSw; (try dsimp only at hSw); go_simp); try with_reducible rfl
              try simp only [Act.put, List.setIfInBounds_toArray, List.set_cons_zero, List.set_cons_succ]
              refine wpAnyH_take (i := 7) (oi := { dst := some 143, op := Op.fieldAddr 43 (Operand.tmp 142) 0, type := 0, pos := "law.go:50", after := #[{ on := 6, ground := Ground.data }, { on := 1, ground := Ground.guard }], guard := some (1, true) }) (v := ?_) rfl (by kernel_rfl) (by kernel_rfl) (by kernel_rfl) (fun _ _ _ h => h) (Or.inl ⟨by kernel_rfl, ?_⟩) hHeld ?_
              rotate_left
              · (intro w hSw; (try dsimp only at hSw); go_simp); try with_reducible rfl
              try simp only [Act.put, List.setIfInBounds_toArray, List.set_cons_zero, List.set_cons_succ]
              refine wpAnyH_take (i := 8) (oi := { dst := some 144, op := Op.load 41 (Operand.tmp 143), type := 41, pos := "law.go:50", after := #[{ on := 7, ground := Ground.data }, { on := 1, ground := Ground.guard }], guard := some (1, true) }) (v := ?_) rfl (by kernel_rfl) (by kernel_rfl) (by kernel_rfl) (fun _ _ _ h => h) (Or.inl ⟨by kernel_rfl, ?_⟩) hHeld ?_
              rotate_left
              · (intro w hSw; (try dsimp only at hSw); go_simp); try with_reducible rfl
              try simp only [Act.put, List.setIfInBounds_toArray, List.set_cons_zero, List.set_cons_succ]
              refine wpAnyH_take (i := 9) (oi := { dst := some 145, op := Op.move (Operand.tmp 20), type := 3, pos := "law.go:50", after := #[{ on := 1, ground := Ground.guard }], guard := some (1, true) }) (v := ?_) rfl (by kernel_rfl) (by kernel_rfl) (by kernel_rfl) (fun _ _ _ h => h) (Or.inl ⟨by kernel_rfl, ?_⟩) hHeld ?_
              rotate_left
              · (intro w hSw; (try dsimp only at hSw); go_simp); try with_reducible rfl
              try simp only [Act.put, List.setIfInBounds_toArray, List.set_cons_zero, List.set_cons_succ]
              refine wpAnyH_take (i := 10) (oi := { dst := some 146, op := Op.indexAddr 41 (Operand.tmp 144) (Operand.tmp 145), type := 0, pos := "law.go:50", after := #[{ on := 8, ground := Ground.data }, { on := 9, ground := Ground.data }, { on := 1, ground := Ground.guard }], guard := some (1, true) }) (v := ?_) rfl (by kernel_rfl) (by kernel_rfl) (by kernel_rfl) (fun _ _ _ h => h) (Or.inl ⟨by kernel_rfl, ?_⟩) hHeld ?_
              rotate_left
              · (intro w hSw; (try dsimp only at hSw); go_simp); try with_reducible rfl
              try simp only [Act.put, List.setIfInBounds_toArray, List.set_cons_zero, List.set_cons_succ]
              refine wpAnyH_take (i := 11) (oi := { dst := some 147, op := Op.load 3 (Operand.tmp 146), type := 3, pos := "law.go:50", after := #[{ on := 10, ground := Ground.data }, { on := 1, ground := Ground.guard }], guard := some (1, true) }) (v := ?_) rfl (by kernel_rfl) (by kernel_rfl) (by kernel_rfl) (fun _ _ _ h => h) (Or.inl ⟨by kernel_rfl, ?_⟩) hHeld ?_
              rotate_left
              · (intro w hSw; (try dsimp only at hSw); go_simp); try with_reducible rfl
              try simp only [Act.put, List.setIfInBounds_toArray, List.set_cons_zero, List.set_cons_succ]
              refine wpAnyH_ready (rs := [4]) (by kernel_rfl) (by simp) ?_
              refine AllReadyH.cons (o := { dst := some 140, op := Op.call { callee := Callee.value (Operand.func 17), args := #[Operand.tmp 138, Operand.tmp 139], argTypes := #[23, 3] }, type := 33, pos := "law.go:50", after := #[{ on := 2, ground := Ground.data }, { on := 3, ground := Ground.data }, { on := 1, ground := Ground.chain }, { on := 1, ground := Ground.guard }], guard := some (1, true) }) rfl (fun K hK => ?_) AllReadyH.nil
              have hOld := hide hHeld
              clear hHeld
              go_simp
              refine (HSA.out _ HPX.out.drew).mono ?_
              rintro e w7 ⟨rfl, rfl⟩
              (try go_wp2_with fail)
              refine hK.out _ _ (hOld.out) (fun hHeld => ?_)
              clear hK K hOld
              try simp only [Act.put, List.setIfInBounds_toArray, List.set_cons_zero, List.set_cons_succ]
              refine wpAnyH_take (i := 12) (oi := { dst := some 148, op := Op.binOp BinOp.eql 3 (Operand.tmp 140) (Operand.tmp 147) 3, type := 4, pos := "law.go:50", after := #[{ on := 4, ground := Ground.data }, { on := 11, ground := Ground.data }, { on := 1, ground := Ground.guard }], guard := some (1, true) }) (v := ?_) rfl (by kernel_rfl) (by kernel_rfl) (by kernel_rfl) (fun _ _ _ h => h) (Or.inl ⟨by kernel_rfl, ?_⟩) hHeld ?_
              rotate_left
              · (intro w hSw; (try dsimp only at hSw); go_simp); try with_reducible rfl
              try simp only [Act.put, List.setIfInBounds_toArray, List.set_cons_zero, List.set_cons_succ]
              refine wpAnyH_take (i := 13) (oi := { dst := some 149, op := Op.pick (Operand.tmp 137) (Operand.tmp 148) (Operand.const (Value.bool false)), type := 4, pos := "law.go:50", after := #[{ on := 1, ground := Ground.data }, { on := 12, ground := Ground.data }], guard := none }) (v := ?_) rfl (by kernel_rfl) (by kernel_rfl) (by kernel_rfl) (fun _ _ _ h => h) (Or.inl ⟨by kernel_rfl, ?_⟩) hHeld ?_
              rotate_left
              · (intro w hSw; (try dsimp only at hSw); go_simp); try with_reducible rfl
              try simp only [Act.put, List.setIfInBounds_toArray, List.set_cons_zero, List.set_cons_succ]
              refine wpAnyH_take (i := 14) (oi := { dst := some 150, op := Op.move (Operand.tmp 149), type := 4, pos := "law.go:50", after := #[{ on := 13, ground := Ground.data }, { on := 4, ground := Ground.chain }], guard := none }) (v := ?_) rfl (by kernel_rfl) (by kernel_rfl) (by kernel_rfl) (fun _ _ _ h => h) (Or.inl ⟨by kernel_rfl, ?_⟩) hHeld ?_
              rotate_left
              · (intro w hSw; (try dsimp only at hSw); go_simp); try with_reducible rfl
              try simp only [Act.put, List.setIfInBounds_toArray, List.set_cons_zero, List.set_cons_succ]
              refine wpAnyH_take (i := 15) (oi := { dst := some 151, op := Op.move (Operand.tmp 6), type := 23, pos := "law.go:50", after := #[{ on := 14, ground := Ground.guard }], guard := some (14, true) }) (v := ?_) rfl (by kernel_rfl) (by kernel_rfl) (by kernel_rfl) (fun _ _ _ h => h) (Or.inl ⟨by kernel_rfl, ?_⟩) hHeld ?_
              rotate_left
              · (intro w hSw; (try dsimp only at hSw); go_simp); try with_reducible rfl
              try simp only [Act.put, List.setIfInBounds_toArray, List.set_cons_zero, List.set_cons_succ]
              refine wpAnyH_take (i := 16) (oi := { dst := some 152, op := Op.move (Operand.tmp 20), type := 3, pos := "law.go:50", after := #[{ on := 14, ground := Ground.guard }], guard := some (14, true) }) (v := ?_) rfl (by kernel_rfl) (by kernel_rfl) (by kernel_rfl) (fun _ _ _ h => h) (Or.inl ⟨by kernel_rfl, ?_⟩) hHeld ?_
              rotate_left
              · (intro w hSw; (try dsimp only at hSw); go_simp); try with_reducible rfl
              try simp only [Act.put, List.setIfInBounds_toArray, List.set_cons_zero, List.set_cons_succ]
              refine wpAnyH_take (i := 18) (oi := { dst := some 154, op := Op.move (Operand.tmp 8), type := 27, pos := "law.go:50", after := #[{ on := 14, ground := Ground.guard }], guard := some (14, true) }) (v := ?_) rfl (by kernel_rfl) (by kernel_rfl) (by kernel_rfl) (fun _ _ _ h => h) (Or.inl ⟨by kernel_rfl, ?_⟩) hHeld ?_
              rotate_left
              · (intro w hSw; (try dsimp only at hSw); go_simp); try with_reducible rfl
              try simp only [Act.put, List.setIfInBounds_toArray, List.set_cons_zero, List.set_cons_succ]
              refine wpAnyH_take (i := 19) (oi := { dst := some 155, op := Op.nilCheck (Operand.tmp 154), type := 0, pos := "law.go:50", after := #[{ on := 18, ground := Ground.data }, { on := 14, ground := Ground.guard }], guard := some (14, true) }) (v := ?_) rfl (by kernel_rfl) (by kernel_rfl) (by kernel_rfl) (fun _ _ _ h => h) (Or.inl ⟨by kernel_rfl, ?_⟩) hHeld ?_
              rotate_left
              · (intro w hSw; (try dsimp only at hSw); go_simp); try with_reducible rfl
              try simp only [Act.put, List.setIfInBounds_toArray, List.set_cons_zero, List.set_cons_succ]
              refine wpAnyH_take (i := 20) (oi := { dst := some 156, op := Op.fieldAddr 43 (Operand.tmp 155) 1, type := 0, pos := "law.go:50", after := #[{ on := 19, ground := Ground.data }, { on := 14, ground := Ground.guard }], guard := some (14, true) }) (v := ?_) rfl (by kernel_rfl) (by kernel_rfl) (by kernel_rfl) (fun _ _ _ h => h) (Or.inl ⟨by kernel_rfl, ?_⟩) hHeld ?_
              rotate_left
              · (intro w hSw; (try dsimp only at hSw); go_simp); try with_reducible rfl
              try simp only [Act.put, List.setIfInBounds_toArray, List.set_cons_zero, List.set_cons_succ]
              refine wpAnyH_take (i := 21) (oi := { dst := some 157, op := Op.load 41 (Operand.tmp 156), type := 41, pos := "law.go:50", after := #[{ on := 20, ground := Ground.data }, { on := 14, ground := Ground.guard }], guard := some (14, true) }) (v := ?_) rfl (by kernel_rfl) (by kernel_rfl) (by kernel_rfl) (fun _ _ _ h => h) (Or.inl ⟨by kernel_rfl, ?_⟩) hHeld ?_
              rotate_left
              · (intro w hSw; (try dsimp only at hSw); go_simp); try with_reducible rfl
              try simp only [Act.put, List.setIfInBounds_toArray, List.set_cons_zero, List.set_cons_succ]
              refine wpAnyH_take (i := 22) (oi := { dst := some 158, op := Op.move (Operand.tmp 20), type := 3, pos := "law.go:50", after := #[{ on := 14, ground := Ground.guard }], guard := some (14, true) }) (v := ?_) rfl (by kernel_rfl) (by kernel_rfl) (by kernel_rfl) (fun _ _ _ h => h) (Or.inl ⟨by kernel_rfl, ?_⟩) hHeld ?_
              rotate_left
              · (intro w hSw; (try dsimp only at hSw); go_simp); try with_reducible rfl
              try simp only [Act.put, List.setIfInBounds_toArray, List.set_cons_zero, List.set_cons_succ]
              refine wpAnyH_take (i := 23) (oi := { dst := some 159, op := Op.indexAddr 41 (Operand.tmp 157) (Operand.tmp 158), type := 0, pos := "law.go:50", after := #[{ on := 21, ground := Ground.data }, { on := 22, ground := Ground.data }, { on := 14, ground := Ground.guard }], guard := some (14, true) }) (v := ?_) rfl (by kernel_rfl) (by kernel_rfl) (by kernel_rfl) (fun _ _ _ h => h) (Or.inl ⟨by kernel_rfl, ?_⟩) hHeld ?_
              rotate_left
              · (intro w hSw; (try dsimp only at hSw); go_simp); try with_reducible rfl
              try simp only [Act.put, List.setIfInBounds_toArray, List.set_cons_zero, List.set_cons_succ]
              refine wpAnyH_take (i := 24) (oi := { dst := some 160, op := Op.load 3 (Operand.tmp 159), type := 3, pos := "law.go:50", after := #[{ on := 23, ground := Ground.data }, { on := 14, ground := Ground.guard }], guard := some (14, true) }) (v := ?_) rfl (by kernel_rfl) (by kernel_rfl) (by kernel_rfl) (fun _ _ _ h => h) (Or.inl ⟨by kernel_rfl, ?_⟩) hHeld ?_
              rotate_left
              · (intro w hSw; (try dsimp only at hSw); go_simp); try with_reducible rfl
              try simp only [Act.put, List.setIfInBounds_toArray, List.set_cons_zero, List.set_cons_succ]
              refine wpAnyH_ready (rs := [17]) (by kernel_rfl) (by simp) ?_
              refine AllReadyH.cons (o := { dst := some 153, op := Op.call { callee := Callee.value (Operand.func 18), args := #[Operand.tmp 151, Operand.tmp 152], argTypes := #[23, 3] }, type := 3, pos := "law.go:50", after := #[{ on := 15, ground := Ground.data }, { on := 16, ground := Ground.data }, { on := 14, ground := Ground.chain }, { on := 14, ground := Ground.guard }], guard := some (14, true) }) rfl (fun K hK => ?_) AllReadyH.nil
              have hOld := hide hHeld
              clear hHeld
              go_simp
              refine (HWA.out _ HPX.out.drew).mono ?_
              rintro e w7 ⟨rfl, rfl⟩
              (try go_wp2_with fail)
              refine hK.out _ _ (hOld.out) (fun hHeld => ?_)
              clear hK K hOld
              try simp only [Act.put, List.setIfInBounds_toArray, List.set_cons_zero, List.set_cons_succ]
              refine wpAnyH_take (i := 25) (oi := { dst := some 161, op := Op.binOp BinOp.eql 3 (Operand.tmp 153) (Operand.tmp 160) 3, type := 4, pos := "law.go:50", after := #[{ on := 17, ground := Ground.data }, { on := 24, ground := Ground.data }, { on := 14, ground := Ground.guard }], guard := some (14, true) }) (v := ?_) rfl (by kernel_rfl) (by kernel_rfl) (by kernel_rfl) (fun _ _ _ h => h) (Or.inl ⟨by kernel_rfl, ?_⟩) hHeld ?_
              rotate_left
              · (intro w hSw; (try dsimp only at hSw); go_simp); try with_reducible rfl
              try simp only [Act.put, List.setIfInBounds_toArray, List.set_cons_zero, List.set_cons_succ]
              refine wpAnyH_take (i := 26) (oi := { dst := some 162, op := Op.pick (Operand.tmp 150) (Operand.tmp 161) (Operand.const (Value.bool false)), type := 4, pos := "law.go:50", after := #[{ on := 14, ground := Ground.data }, { on := 25, ground := Ground.data }], guard := none }) (v := ?_) rfl (by kernel_rfl) (by kernel_rfl) (by kernel_rfl) (fun _ _ _ h => h) (Or.inl ⟨by kernel_rfl, ?_⟩) hHeld ?_
              rotate_left
              · (intro w hSw; (try dsimp only at hSw); go_simp); try with_reducible rfl
              try simp only [Act.put, List.setIfInBounds_toArray, List.set_cons_zero, List.set_cons_succ]
              refine wpAnyH_take (i := 27) (oi := { dst := some 11, op := Op.assign (Operand.tmp 162), type := 4, pos := "law.go:50", after := #[{ on := 26, ground := Ground.data }, { on := 17, ground := Ground.chain }, { on := 0, ground := Ground.phase }, { on := 1, ground := Ground.phase }, { on := 2, ground := Ground.phase }, { on := 3, ground := Ground.phase }, { on := 4, ground := Ground.phase }, { on := 5, ground := Ground.phase }, { on := 6, ground := Ground.phase }, { on := 7, ground := Ground.phase }, { on := 8, ground := Ground.phase }, { on := 9, ground := Ground.phase }, { on := 10, ground := Ground.phase }, { on := 11, ground := Ground.phase }, { on := 12, ground := Ground.phase }, { on := 13, ground := Ground.phase }, { on := 14, ground := Ground.phase }, { on := 15, ground := Ground.phase }, { on := 16, ground := Ground.phase }, { on := 17, ground := Ground.phase }, { on := 18, ground := Ground.phase }, { on := 19, ground := Ground.phase }, { on := 20, ground := Ground.phase }, { on := 21, ground := Ground.phase }, { on := 22, ground := Ground.phase }, { on := 23, ground := Ground.phase }, { on := 24, ground := Ground.phase }, { on := 25, ground := Ground.phase }, { on := 26, ground := Ground.phase }], guard := none }) (v := ?_) rfl (by kernel_rfl) (by kernel_rfl) (by kernel_rfl) (fun _ _ _ h => h) (Or.inl ⟨by kernel_rfl, ?_⟩) hHeld ?_
              rotate_left
              · (intro w hSw; (try dsimp only at hSw); go_simp); try with_reducible rfl
              try simp only [Act.put, List.setIfInBounds_toArray, List.set_cons_zero, List.set_cons_succ]
              refine wpAnyH_done (by kernel_rfl) ?_ _
              go_wp2_with fail
              go_roundw
              case rel => exact ⟨j + 1, by omega, by go_num, rfl, HPX.out.drew, HRX.out.drew, HBX.out.drew⟩
              case measure => simp [intOf]; omega
            · obtain rfl : j = n := by omega
              clear hp hr hB
              obtain ⟨wq, rfl⟩ : ∃ wq : World, wq = wr := ⟨_, rfl⟩
              go_wp2_with fail
              go_loopw [164, 11] (fun i ok W => ∃ c : Nat, c ≤ 5 ∧ i = .int .i64 c ∧ ok = .bool true ∧ PoolAt W (w.heap.size + 1) w.heap.size M' ∧ RPAt W r s t M' ∧ Below w.heap.size w W) (fun i _ _ => 5 - (intOf i).toNat)
              case atStart => exact ⟨0, by omega, rfl, rfl, HPX.out, HRX.out, HBX.out⟩
              case round =>
                clear HPX HRX HBX
                obtain ⟨c, hc5, rfl, rfl, hp, hr, hB⟩ := hrel
                have HPX := hide hp
                have HRX := hide hr
                have HBX := hide hB
                have hml := hide (show M'.length ≤ 1000000 by have := HM'.out; omega)
                by_cases hlc : c < 5
                · have HC1 := hide (count_any (w.heap.size + 1) w.heap.size M' hml.out c wr hp)
                  have HC2 := hide (fun W hW => rcount_any r s t M' hml.out c W hW)
                  generalize (cntK M' c M'.length : Int) = cc at *
                  clear hp hr hB
                  go_wp2_with fail
                  refine HC1.out.mono ?_
                  rintro e w7 ⟨rfl, hb7⟩
                  have HP7 := hide (HPX.out.below hb7)
                  have HR7 := hide (HRX.out.below hb7)
                  have HB7 := hide (below_trans HBX.out hb7)
                  clear hb7
                  go_wp2_with fail
                  refine (HC2.out _ HR7.out).mono ?_
                  rintro e w8 ⟨rfl, rfl⟩
                  go_wp2_with fail
                  go_roundw
                  case rel => exact ⟨c + 1, by omega, by go_num, rfl, HP7.out, HR7.out, HB7.out⟩
                  case measure => simp [intOf]; omega
                · obtain rfl : c = 5 := by omega
                  have HC1 := hide (spread_any (w.heap.size + 1) w.heap.size M' hml.out wr hp)
                  have HC2 := hide (fun W hW => rspread_any r s t M' HW'.out hml.out W hW)
                  have HS1 := hide (fun W hW => state_out (w.heap.size + 1) w.heap.size M' (j : Int) (by rw [HM'.out]; omega) W hW)
                  have HS2 := hide (fun W hW => state_out (w.heap.size + 1) w.heap.size M' (-1) (by omega) W hW)
                  have HS3 := hide (fun W hW => wear_out (w.heap.size + 1) w.heap.size M' (j : Int) (by rw [HM'.out]; omega) W hW)
                  generalize spreadZ M' = zz at *
                  obtain ⟨lo, hi⟩ := zz
                  simp only at HC1 HC2
                  clear hp hr hB
                  go_wp2_with fail
                  refine HC1.out.mono ?_
                  rintro e w7 ⟨rfl, hb7⟩
                  have HP7 := hide (HPX.out.below hb7)
                  have HR7 := hide (HRX.out.below hb7)
                  have HB7 := hide (below_trans HBX.out hb7)
                  clear hb7
                  go_wp2_with fail
                  refine (HC2.out _ HR7.out).mono ?_
                  rintro e w8 ⟨rfl, rfl⟩
                  go_wp2_with fail
                  refine (HS1.out _ HP7.out).mono ?_
                  rintro e w9 ⟨rfl, rfl⟩
                  go_wp2_with fail
                  refine (HS2.out _ HP7.out).mono ?_
                  rintro e w10 ⟨rfl, rfl⟩
                  go_wp2_with fail
                  refine (HS3.out _ HP7.out).mono ?_
                  rintro e w11 ⟨rfl, rfl⟩
                  go_wp2_with fail
                  go_roundw
                  case rel => exact ⟨k + 1, M', by omega, by go_num, HM'.out, HW'.out, HP7.out, HR7.out, HB7.out⟩
                  case measure => simp [intOf]; omega
      · have hct : my.tmod 5 = 3 := by rw [← y5]; exact hcs
        clear y5 hmy
        as_aux_lemma =>
          have hq := heap_lt HP.out.row
          have hpp := heap_lt HP.out.head
          have hrr := HR0.out
          have hss := HS0.out
          have htt := HT0.out
          have hpb := HPB.out
          have hr9 := heap_lt HR.out.head
          have hs9 := heap_lt HR.out.st
          have ht9 := heap_lt HR.out.we
          have HPA := hide (show PoolAt (wr.alloc (.cells #[.int .i64 xd, .int .i64 xb, .int .i64 xn] 31)) (w.heap.size + 1) w.heap.size M from HP.out.below ((Below.refl _ _).alloc (Nat.le_refl _) _))
          have HRA := hide (show RPAt (wr.alloc (.cells #[.int .i64 xd, .int .i64 xb, .int .i64 xn] 31)) r s t M from HR.out.below ((Below.refl _ _).alloc (Nat.le_refl _) _))
          have HBA := hide (HB.out.alloc HB.out.size (.cells #[.int .i64 xd, .int .i64 xb, .int .i64 xn] 31))
          have hml := hide (show M.length ≤ 1000000 by have := HM.out; omega)
          have HM' := hide ((takeL_len false M).trans HM.out)
          have HW' := hide (HW.out.take false)
          have HTK := hide (take_any (w.heap.size + 1) w.heap.size M hml.out _ HPA.out)
          have HRT := hide (fun W hW => rtake_any false r s t M hml.out W hW)
          generalize takeZ false M = zz at *
          obtain ⟨zk, ze⟩ := zz
          simp only at HTK HRT
          generalize hll : takeL false M = M' at *
          clear hll
          go_wp2_with fail
          refine HTK.out.mono ?_
          rintro e w5 ⟨rfl, hp5, ho5⟩
          have HP5 := hide hp5
          have HR5 := hide (HRA.out.only ho5 (by omega) (by omega) (by omega))
          have HB5 := hide (ho5.below HBA.out (Nat.le_refl _) HBA.out.size)
          clear hp5 ho5 HTK
          go_wp2_with fail
          refine (HRT.out _ HR5.out).mono ?_
          rintro e w6 ⟨rfl, hr6, ho6⟩
          have HPX := hide (HP5.out.only ho6 (by omega) (by omega))
          have HRX := hide hr6
          have HBX := hide (ho6.below HB5.out (by omega) HB5.out.size)
          clear hr6 ho6 HP5 HR5 HB5 HPA HRA HBA hq hpp hrr hss htt hpb hr9 hs9 ht9 HRT
          clear d0 d1 d2 hbw HP HR HB
          obtain ⟨wo, rfl⟩ : ∃ wo : World, wo = w6 := ⟨_, rfl⟩
          go_wp2_with fail
          go_loopw [133, 11] (fun i ok W => ∃ j : Nat, j ≤ n ∧ i = .int .i64 j ∧ ok = .bool true ∧ PoolAt W (w.heap.size + 1) w.heap.size M' ∧ RPAt W r s t M' ∧ Below w.heap.size w W) (fun i _ _ => n - (intOf i).toNat)
          case atStart => exact ⟨0, by omega, rfl, rfl, HPX.out, HRX.out, HBX.out⟩
          case round =>
            clear HPX HRX HBX
            obtain ⟨j, hj, rfl, rfl, hp, hr, hB⟩ := hrel
            have HPX := hide hp
            have HRX := hide hr
            have HBX := hide hB
            by_cases hlj : j < n
            · obtain ⟨c0, c1⟩ := hr.cells
              obtain ⟨a0, a1, -⟩ := hr.at j (by rw [HM'.out]; exact hlj)
              have HSA := hide (fun W hW => state_at (w.heap.size + 1) w.heap.size M' j (by rw [HM'.out]; exact hlj) W hW)
              have HWA := hide (fun W hW => wear_at (w.heap.size + 1) w.heap.size M' j (by rw [HM'.out]; exact hlj) W hW)
              rw [HM'.out] at c0 c1
              have hj0 : (0 : Int) ≤ j := by omega
              have hjn : (j : Int) < n := by omega
              clear hp hr hB
              generalize (M'.getD j (0, 0)).1 = xx at *
              generalize (M'.getD j (0, 0)).2 = yy at *
              go_wp2_with fail
              have HC0 := hide c0
              have HC1 := hide c1
              have HA0 := hide a0
              have HA1 := hide a1
              clear c0 c1 a0 a1
              refine wp_region_held_drew (S := (fun W => W.cell? ⟨r, 0, none⟩ = some (.slice (some ⟨s, 0, none⟩) n n) ∧ W.cell? ⟨r, 1, none⟩ = some (.slice (some ⟨t, 0, none⟩) n n) ∧ W.cell? ⟨s, j, none⟩ = some (.int .i64 xx) ∧ W.cell? ⟨t, j, none⟩ = some (.int .i64 yy))) (by kernel_rfl) (⟨HC0.out, HC1.out, HA0.out, HA1.out⟩) (fun hHeld => ?_)
              refine wpAnyH_take (i := 0) (oi := { dst := some 136, op := Op.move (Operand.tmp 11), type := 4, pos := "law.go:50", after := #[], guard := none }) (v := ?_) rfl (by kernel_rfl) (by kernel_rfl) (by kernel_rfl) (fun _ _ _ h => h) (Or.inl ⟨by kernel_rfl, ?_⟩) hHeld ?_
              rotate_left
              · (intro w hSw; (try dsimp only at hSw); go_simp); try with_reducible rfl
              try simp only [Act.put, List.setIfInBounds_toArray, List.set_cons_zero, List.set_cons_succ]
              refine wpAnyH_take (i := 1) (oi := { dst := some 137, op := Op.move (Operand.tmp 136), type := 4, pos := "law.go:50", after := #[{ on := 0, ground := Ground.data }], guard := none }) (v := ?_) rfl (by kernel_rfl) (by kernel_rfl) (by kernel_rfl) (fun _ _ _ h => h) (Or.inl ⟨by kernel_rfl, ?_⟩) hHeld ?_
              rotate_left
              · (intro w hSw; (try dsimp only at hSw); go_simp); try with_reducible rfl
              try simp only [Act.put, List.setIfInBounds_toArray, List.set_cons_zero, List.set_cons_succ]
              refine wpAnyH_take (i := 2) (oi := { dst := some 138, op := Op.move (Operand.tmp 6), type := 23, pos := "law.go:50", after := #[{ on := 1, ground := Ground.guard }], guard := some (1, true) }) (v := ?_) rfl (by kernel_rfl) (by kernel_rfl) (by kernel_rfl) (fun _ _ _ h => h) (Or.inl ⟨by kernel_rfl, ?_⟩) hHeld ?_
              rotate_left
              · (intro w hSw; (try dsimp only at hSw); go_simp); try with_reducible rfl
              try simp only [Act.put, List.setIfInBounds_toArray, List.set_cons_zero, List.set_cons_succ]
              refine wpAnyH_take (i := 3) (oi := { dst := some 139, op := Op.move (Operand.tmp 20), type := 3, pos := "law.go:50", after := #[{ on := 1, ground := Ground.guard }], guard := some (1, true) }) (v := ?_) rfl (by kernel_rfl) (by kernel_rfl) (by kernel_rfl) (fun _ _ _ h => h) (Or.inl ⟨by kernel_rfl, ?_⟩) hHeld ?_
              rotate_left
              · (intro w hSw; (try dsimp only at hSw); go_simp); try with_reducible rfl
              try simp only [Act.put, List.setIfInBounds_toArray, List.set_cons_zero, List.set_cons_succ]
              refine wpAnyH_take (i := 5) (oi := { dst := some 141, op := Op.move (Operand.tmp 8), type := 27, pos := "law.go:50", after := #[{ on := 1, ground := Ground.guard }], guard := some (1, true) }) (v := ?_) rfl (by kernel_rfl) (by kernel_rfl) (by kernel_rfl) (fun _ _ _ h => h) (Or.inl ⟨by kernel_rfl, ?_⟩) hHeld ?_
              rotate_left
              · (intro w hSw; (try dsimp only at hSw); go_simp); try with_reducible rfl
              try simp only [Act.put, List.setIfInBounds_toArray, List.set_cons_zero, List.set_cons_succ]
              refine wpAnyH_take (i := 6) (oi := { dst := some 142, op := Op.nilCheck (Operand.tmp 141), type := 0, pos := "law.go:50", after := #[{ on := 5, ground := Ground.data }, { on := 1, ground := Ground.guard }], guard := some (1, true) }) (v := ?_) rfl (by kernel_rfl) (by kernel_rfl) (by kernel_rfl) (fun _ _ _ h => h) (Or.inl ⟨by kernel_rfl, ?_⟩) hHeld ?_
              rotate_left
              · (intro w hSw; (try dsimp only at hSw); go_simp); try with_reducible rfl
              try simp only [Act.put, List.setIfInBounds_toArray, List.set_cons_zero, List.set_cons_succ]
              refine wpAnyH_take (i := 7) (oi := { dst := some 143, op := Op.fieldAddr 43 (Operand.tmp 142) 0, type := 0, pos := "law.go:50", after := #[{ on := 6, ground := Ground.data }, { on := 1, ground := Ground.guard }], guard := some (1, true) }) (v := ?_) rfl (by kernel_rfl) (by kernel_rfl) (by kernel_rfl) (fun _ _ _ h => h) (Or.inl ⟨by kernel_rfl, ?_⟩) hHeld ?_
              rotate_left
              · (intro w hSw; (try dsimp only at hSw); go_simp); try with_reducible rfl
              try simp only [Act.put, List.setIfInBounds_toArray, List.set_cons_zero, List.set_cons_succ]
              refine wpAnyH_take (i := 8) (oi := { dst := some 144, op := Op.load 41 (Operand.tmp 143), type := 41, pos := "law.go:50", after := #[{ on := 7, ground := Ground.data }, { on := 1, ground := Ground.guard }], guard := some (1, true) }) (v := ?_) rfl (by kernel_rfl) (by kernel_rfl) (by kernel_rfl) (fun _ _ _ h => h) (Or.inl ⟨by kernel_rfl, ?_⟩) hHeld ?_
              rotate_left
              · (intro w hSw; (try dsimp only at hSw); go_simp); try with_reducible rfl
              try simp only [Act.put, List.setIfInBounds_toArray, List.set_cons_zero, List.set_cons_succ]
              refine wpAnyH_take (i := 9) (oi := { dst := some 145, op := Op.move (Operand.tmp 20), type := 3, pos := "law.go:50", after := #[{ on := 1, ground := Ground.guard }], guard := some (1, true) }) (v := ?_) rfl (by kernel_rfl) (by kernel_rfl) (by kernel_rfl) (fun _ _ _ h => h) (Or.inl ⟨by kernel_rfl, ?_⟩) hHeld ?_
              rotate_left
              · (intro w hSw; (try dsimp only at hSw); go_simp); try with_reducible rfl
              try simp only [Act.put, List.setIfInBounds_toArray, List.set_cons_zero, List.set_cons_succ]
              refine wpAnyH_take (i := 10) (oi := { dst := some 146, op := Op.indexAddr 41 (Operand.tmp 144) (Operand.tmp 145), type := 0, pos := "law.go:50", after := #[{ on := 8, ground := Ground.data }, { on := 9, ground := Ground.data }, { on := 1, ground := Ground.guard }], guard := some (1, true) }) (v := ?_) rfl (by kernel_rfl) (by kernel_rfl) (by kernel_rfl) (fun _ _ _ h => h) (Or.inl ⟨by kernel_rfl, ?_⟩) hHeld ?_
              rotate_left
              · (intro w hSw; (try dsimp only at hSw); go_simp); try with_reducible rfl
              try simp only [Act.put, List.setIfInBounds_toArray, List.set_cons_zero, List.set_cons_succ]
              refine wpAnyH_take (i := 11) (oi := { dst := some 147, op := Op.load 3 (Operand.tmp 146), type := 3, pos := "law.go:50", after := #[{ on := 10, ground := Ground.data }, { on := 1, ground := Ground.guard }], guard := some (1, true) }) (v := ?_) rfl (by kernel_rfl) (by kernel_rfl) (by kernel_rfl) (fun _ _ _ h => h) (Or.inl ⟨by kernel_rfl, ?_⟩) hHeld ?_
              rotate_left
              · (intro w hSw; (try dsimp only at hSw); go_simp); try with_reducible rfl
              try simp only [Act.put, List.setIfInBounds_toArray, List.set_cons_zero, List.set_cons_succ]
              refine wpAnyH_ready (rs := [4]) (by kernel_rfl) (by simp) ?_
              refine AllReadyH.cons (o := { dst := some 140, op := Op.call { callee := Callee.value (Operand.func 17), args := #[Operand.tmp 138, Operand.tmp 139], argTypes := #[23, 3] }, type := 33, pos := "law.go:50", after := #[{ on := 2, ground := Ground.data }, { on := 3, ground := Ground.data }, { on := 1, ground := Ground.chain }, { on := 1, ground := Ground.guard }], guard := some (1, true) }) rfl (fun K hK => ?_) AllReadyH.nil
              have hOld := hide hHeld
              clear hHeld
              go_simp
              refine (HSA.out _ HPX.out.drew).mono ?_
              rintro e w7 ⟨rfl, rfl⟩
              (try go_wp2_with fail)
              refine hK.out _ _ (hOld.out) (fun hHeld => ?_)
              clear hK K hOld
              try simp only [Act.put, List.setIfInBounds_toArray, List.set_cons_zero, List.set_cons_succ]
              refine wpAnyH_take (i := 12) (oi := { dst := some 148, op := Op.binOp BinOp.eql 3 (Operand.tmp 140) (Operand.tmp 147) 3, type := 4, pos := "law.go:50", after := #[{ on := 4, ground := Ground.data }, { on := 11, ground := Ground.data }, { on := 1, ground := Ground.guard }], guard := some (1, true) }) (v := ?_) rfl (by kernel_rfl) (by kernel_rfl) (by kernel_rfl) (fun _ _ _ h => h) (Or.inl ⟨by kernel_rfl, ?_⟩) hHeld ?_
              rotate_left
              · (intro w hSw; (try dsimp only at hSw); go_simp); try with_reducible rfl
              try simp only [Act.put, List.setIfInBounds_toArray, List.set_cons_zero, List.set_cons_succ]
              refine wpAnyH_take (i := 13) (oi := { dst := some 149, op := Op.pick (Operand.tmp 137) (Operand.tmp 148) (Operand.const (Value.bool false)), type := 4, pos := "law.go:50", after := #[{ on := 1, ground := Ground.data }, { on := 12, ground := Ground.data }], guard := none }) (v := ?_) rfl (by kernel_rfl) (by kernel_rfl) (by kernel_rfl) (fun _ _ _ h => h) (Or.inl ⟨by kernel_rfl, ?_⟩) hHeld ?_
              rotate_left
              · (intro w hSw; (try dsimp only at hSw); go_simp); try with_reducible rfl
              try simp only [Act.put, List.setIfInBounds_toArray, List.set_cons_zero, List.set_cons_succ]
              refine wpAnyH_take (i := 14) (oi := { dst := some 150, op := Op.move (Operand.tmp 149), type := 4, pos := "law.go:50", after := #[{ on := 13, ground := Ground.data }, { on := 4, ground := Ground.chain }], guard := none }) (v := ?_) rfl (by kernel_rfl) (by kernel_rfl) (by kernel_rfl) (fun _ _ _ h => h) (Or.inl ⟨by kernel_rfl, ?_⟩) hHeld ?_
              rotate_left
              · (intro w hSw; (try dsimp only at hSw); go_simp); try with_reducible rfl
              try simp only [Act.put, List.setIfInBounds_toArray, List.set_cons_zero, List.set_cons_succ]
              refine wpAnyH_take (i := 15) (oi := { dst := some 151, op := Op.move (Operand.tmp 6), type := 23, pos := "law.go:50", after := #[{ on := 14, ground := Ground.guard }], guard := some (14, true) }) (v := ?_) rfl (by kernel_rfl) (by kernel_rfl) (by kernel_rfl) (fun _ _ _ h => h) (Or.inl ⟨by kernel_rfl, ?_⟩) hHeld ?_
              rotate_left
              · (intro w hSw; (try dsimp only at hSw); go_simp); try with_reducible rfl
              try simp only [Act.put, List.setIfInBounds_toArray, List.set_cons_zero, List.set_cons_succ]
              refine wpAnyH_take (i := 16) (oi := { dst := some 152, op := Op.move (Operand.tmp 20), type := 3, pos := "law.go:50", after := #[{ on := 14, ground := Ground.guard }], guard := some (14, true) }) (v := ?_) rfl (by kernel_rfl) (by kernel_rfl) (by kernel_rfl) (fun _ _ _ h => h) (Or.inl ⟨by kernel_rfl, ?_⟩) hHeld ?_
              rotate_left
              · (intro w hSw; (try dsimp only at hSw); go_simp); try with_reducible rfl
              try simp only [Act.put, List.setIfInBounds_toArray, List.set_cons_zero, List.set_cons_succ]
              refine wpAnyH_take (i := 18) (oi := { dst := some 154, op := Op.move (Operand.tmp 8), type := 27, pos := "law.go:50", after := #[{ on := 14, ground := Ground.guard }], guard := some (14, true) }) (v := ?_) rfl (by kernel_rfl) (by kernel_rfl) (by kernel_rfl) (fun _ _ _ h => h) (Or.inl ⟨by kernel_rfl, ?_⟩) hHeld ?_
              rotate_left
              · (intro w hSw; (try dsimp only at hSw); go_simp); try with_reducible rfl
              try simp only [Act.put, List.setIfInBounds_toArray, List.set_cons_zero, List.set_cons_succ]
              refine wpAnyH_take (i := 19) (oi := { dst := some 155, op := Op.nilCheck (Operand.tmp 154), type := 0, pos := "law.go:50", after := #[{ on := 18, ground := Ground.data }, { on := 14, ground := Ground.guard }], guard := some (14, true) }) (v := ?_) rfl (by kernel_rfl) (by kernel_rfl) (by kernel_rfl) (fun _ _ _ h => h) (Or.inl ⟨by kernel_rfl, ?_⟩) hHeld ?_
              rotate_left
              · (intro w hSw; (try dsimp only at hSw); go_simp); try with_reducible rfl
              try simp only [Act.put, List.setIfInBounds_toArray, List.set_cons_zero, List.set_cons_succ]
              refine wpAnyH_take (i := 20) (oi := { dst := some 156, op := Op.fieldAddr 43 (Operand.tmp 155) 1, type := 0, pos := "law.go:50", after := #[{ on := 19, ground := Ground.data }, { on := 14, ground := Ground.guard }], guard := some (14, true) }) (v := ?_) rfl (by kernel_rfl) (by kernel_rfl) (by kernel_rfl) (fun _ _ _ h => h) (Or.inl ⟨by kernel_rfl, ?_⟩) hHeld ?_
              rotate_left
              · (intro w hSw; (try dsimp only at hSw); go_simp); try with_reducible rfl
              try simp only [Act.put, List.setIfInBounds_toArray, List.set_cons_zero, List.set_cons_succ]
              refine wpAnyH_take (i := 21) (oi := { dst := some 157, op := Op.load 41 (Operand.tmp 156), type := 41, pos := "law.go:50", after := #[{ on := 20, ground := Ground.data }, { on := 14, ground := Ground.guard }], guard := some (14, true) }) (v := ?_) rfl (by kernel_rfl) (by kernel_rfl) (by kernel_rfl) (fun _ _ _ h => h) (Or.inl ⟨by kernel_rfl, ?_⟩) hHeld ?_
              rotate_left
              · (intro w hSw; (try dsimp only at hSw); go_simp); try with_reducible rfl
              try simp only [Act.put, List.setIfInBounds_toArray, List.set_cons_zero, List.set_cons_succ]
              refine wpAnyH_take (i := 22) (oi := { dst := some 158, op := Op.move (Operand.tmp 20), type := 3, pos := "law.go:50", after := #[{ on := 14, ground := Ground.guard }], guard := some (14, true) }) (v := ?_) rfl (by kernel_rfl) (by kernel_rfl) (by kernel_rfl) (fun _ _ _ h => h) (Or.inl ⟨by kernel_rfl, ?_⟩) hHeld ?_
              rotate_left
              · (intro w hSw; (try dsimp only at hSw); go_simp); try with_reducible rfl
              try simp only [Act.put, List.setIfInBounds_toArray, List.set_cons_zero, List.set_cons_succ]
              refine wpAnyH_take (i := 23) (oi := { dst := some 159, op := Op.indexAddr 41 (Operand.tmp 157) (Operand.tmp 158), type := 0, pos := "law.go:50", after := #[{ on := 21, ground := Ground.data }, { on := 22, ground := Ground.data }, { on := 14, ground := Ground.guard }], guard := some (14, true) }) (v := ?_) rfl (by kernel_rfl) (by kernel_rfl) (by kernel_rfl) (fun _ _ _ h => h) (Or.inl ⟨by kernel_rfl, ?_⟩) hHeld ?_
              rotate_left
              · (intro w hSw; (try dsimp only at hSw); go_simp); try with_reducible rfl
              try simp only [Act.put, List.setIfInBounds_toArray, List.set_cons_zero, List.set_cons_succ]
              refine wpAnyH_take (i := 24) (oi := { dst := some 160, op := Op.load 3 (Operand.tmp 159), type := 3, pos := "law.go:50", after := #[{ on := 23, ground := Ground.data }, { on := 14, ground := Ground.guard }], guard := some (14, true) }) (v := ?_) rfl (by kernel_rfl) (by kernel_rfl) (by kernel_rfl) (fun _ _ _ h => h) (Or.inl ⟨by kernel_rfl, ?_⟩) hHeld ?_
              rotate_left
              · (intro w hSw; (try dsimp only at hSw); go_simp); try with_reducible rfl
              try simp only [Act.put, List.setIfInBounds_toArray, List.set_cons_zero, List.set_cons_succ]
              refine wpAnyH_ready (rs := [17]) (by kernel_rfl) (by simp) ?_
              refine AllReadyH.cons (o := { dst := some 153, op := Op.call { callee := Callee.value (Operand.func 18), args := #[Operand.tmp 151, Operand.tmp 152], argTypes := #[23, 3] }, type := 3, pos := "law.go:50", after := #[{ on := 15, ground := Ground.data }, { on := 16, ground := Ground.data }, { on := 14, ground := Ground.chain }, { on := 14, ground := Ground.guard }], guard := some (14, true) }) rfl (fun K hK => ?_) AllReadyH.nil
              have hOld := hide hHeld
              clear hHeld
              go_simp
              refine (HWA.out _ HPX.out.drew).mono ?_
              rintro e w7 ⟨rfl, rfl⟩
              (try go_wp2_with fail)
              refine hK.out _ _ (hOld.out) (fun hHeld => ?_)
              clear hK K hOld
              try simp only [Act.put, List.setIfInBounds_toArray, List.set_cons_zero, List.set_cons_succ]
              refine wpAnyH_take (i := 25) (oi := { dst := some 161, op := Op.binOp BinOp.eql 3 (Operand.tmp 153) (Operand.tmp 160) 3, type := 4, pos := "law.go:50", after := #[{ on := 17, ground := Ground.data }, { on := 24, ground := Ground.data }, { on := 14, ground := Ground.guard }], guard := some (14, true) }) (v := ?_) rfl (by kernel_rfl) (by kernel_rfl) (by kernel_rfl) (fun _ _ _ h => h) (Or.inl ⟨by kernel_rfl, ?_⟩) hHeld ?_
              rotate_left
              · (intro w hSw; (try dsimp only at hSw); go_simp); try with_reducible rfl
              try simp only [Act.put, List.setIfInBounds_toArray, List.set_cons_zero, List.set_cons_succ]
              refine wpAnyH_take (i := 26) (oi := { dst := some 162, op := Op.pick (Operand.tmp 150) (Operand.tmp 161) (Operand.const (Value.bool false)), type := 4, pos := "law.go:50", after := #[{ on := 14, ground := Ground.data }, { on := 25, ground := Ground.data }], guard := none }) (v := ?_) rfl (by kernel_rfl) (by kernel_rfl) (by kernel_rfl) (fun _ _ _ h => h) (Or.inl ⟨by kernel_rfl, ?_⟩) hHeld ?_
              rotate_left
              · (intro w hSw; (try dsimp only at hSw); go_simp); try with_reducible rfl
              try simp only [Act.put, List.setIfInBounds_toArray, List.set_cons_zero, List.set_cons_succ]
              refine wpAnyH_take (i := 27) (oi := { dst := some 11, op := Op.assign (Operand.tmp 162), type := 4, pos := "law.go:50", after := #[{ on := 26, ground := Ground.data }, { on := 17, ground := Ground.chain }, { on := 0, ground := Ground.phase }, { on := 1, ground := Ground.phase }, { on := 2, ground := Ground.phase }, { on := 3, ground := Ground.phase }, { on := 4, ground := Ground.phase }, { on := 5, ground := Ground.phase }, { on := 6, ground := Ground.phase }, { on := 7, ground := Ground.phase }, { on := 8, ground := Ground.phase }, { on := 9, ground := Ground.phase }, { on := 10, ground := Ground.phase }, { on := 11, ground := Ground.phase }, { on := 12, ground := Ground.phase }, { on := 13, ground := Ground.phase }, { on := 14, ground := Ground.phase }, { on := 15, ground := Ground.phase }, { on := 16, ground := Ground.phase }, { on := 17, ground := Ground.phase }, { on := 18, ground := Ground.phase }, { on := 19, ground := Ground.phase }, { on := 20, ground := Ground.phase }, { on := 21, ground := Ground.phase }, { on := 22, ground := Ground.phase }, { on := 23, ground := Ground.phase }, { on := 24, ground := Ground.phase }, { on := 25, ground := Ground.phase }, { on := 26, ground := Ground.phase }], guard := none }) (v := ?_) rfl (by kernel_rfl) (by kernel_rfl) (by kernel_rfl) (fun _ _ _ h => h) (Or.inl ⟨by kernel_rfl, ?_⟩) hHeld ?_
              rotate_left
              · (intro w hSw; (try dsimp only at hSw); go_simp); try with_reducible rfl
              try simp only [Act.put, List.setIfInBounds_toArray, List.set_cons_zero, List.set_cons_succ]
              refine wpAnyH_done (by kernel_rfl) ?_ _
              go_wp2_with fail
              go_roundw
              case rel => exact ⟨j + 1, by omega, by go_num, rfl, HPX.out.drew, HRX.out.drew, HBX.out.drew⟩
              case measure => simp [intOf]; omega
            · obtain rfl : j = n := by omega
              clear hp hr hB
              obtain ⟨wq, rfl⟩ : ∃ wq : World, wq = wr := ⟨_, rfl⟩
              go_wp2_with fail
              go_loopw [164, 11] (fun i ok W => ∃ c : Nat, c ≤ 5 ∧ i = .int .i64 c ∧ ok = .bool true ∧ PoolAt W (w.heap.size + 1) w.heap.size M' ∧ RPAt W r s t M' ∧ Below w.heap.size w W) (fun i _ _ => 5 - (intOf i).toNat)
              case atStart => exact ⟨0, by omega, rfl, rfl, HPX.out, HRX.out, HBX.out⟩
              case round =>
                clear HPX HRX HBX
                obtain ⟨c, hc5, rfl, rfl, hp, hr, hB⟩ := hrel
                have HPX := hide hp
                have HRX := hide hr
                have HBX := hide hB
                have hml := hide (show M'.length ≤ 1000000 by have := HM'.out; omega)
                by_cases hlc : c < 5
                · have HC1 := hide (count_any (w.heap.size + 1) w.heap.size M' hml.out c wr hp)
                  have HC2 := hide (fun W hW => rcount_any r s t M' hml.out c W hW)
                  generalize (cntK M' c M'.length : Int) = cc at *
                  clear hp hr hB
                  go_wp2_with fail
                  refine HC1.out.mono ?_
                  rintro e w7 ⟨rfl, hb7⟩
                  have HP7 := hide (HPX.out.below hb7)
                  have HR7 := hide (HRX.out.below hb7)
                  have HB7 := hide (below_trans HBX.out hb7)
                  clear hb7
                  go_wp2_with fail
                  refine (HC2.out _ HR7.out).mono ?_
                  rintro e w8 ⟨rfl, rfl⟩
                  go_wp2_with fail
                  go_roundw
                  case rel => exact ⟨c + 1, by omega, by go_num, rfl, HP7.out, HR7.out, HB7.out⟩
                  case measure => simp [intOf]; omega
                · obtain rfl : c = 5 := by omega
                  have HC1 := hide (spread_any (w.heap.size + 1) w.heap.size M' hml.out wr hp)
                  have HC2 := hide (fun W hW => rspread_any r s t M' HW'.out hml.out W hW)
                  have HS1 := hide (fun W hW => state_out (w.heap.size + 1) w.heap.size M' (j : Int) (by rw [HM'.out]; omega) W hW)
                  have HS2 := hide (fun W hW => state_out (w.heap.size + 1) w.heap.size M' (-1) (by omega) W hW)
                  have HS3 := hide (fun W hW => wear_out (w.heap.size + 1) w.heap.size M' (j : Int) (by rw [HM'.out]; omega) W hW)
                  generalize spreadZ M' = zz at *
                  obtain ⟨lo, hi⟩ := zz
                  simp only at HC1 HC2
                  clear hp hr hB
                  go_wp2_with fail
                  refine HC1.out.mono ?_
                  rintro e w7 ⟨rfl, hb7⟩
                  have HP7 := hide (HPX.out.below hb7)
                  have HR7 := hide (HRX.out.below hb7)
                  have HB7 := hide (below_trans HBX.out hb7)
                  clear hb7
                  go_wp2_with fail
                  refine (HC2.out _ HR7.out).mono ?_
                  rintro e w8 ⟨rfl, rfl⟩
                  go_wp2_with fail
                  refine (HS1.out _ HP7.out).mono ?_
                  rintro e w9 ⟨rfl, rfl⟩
                  go_wp2_with fail
                  refine (HS2.out _ HP7.out).mono ?_
                  rintro e w10 ⟨rfl, rfl⟩
                  go_wp2_with fail
                  refine (HS3.out _ HP7.out).mono ?_
                  rintro e w11 ⟨rfl, rfl⟩
                  go_wp2_with fail
                  go_roundw
                  case rel => exact ⟨k + 1, M', by omega, by go_num, HM'.out, HW'.out, HP7.out, HR7.out, HB7.out⟩
                  case measure => simp [intOf]; omega
      · have hct : my.tmod 5 = 4 := by rw [← y5]; exact hcs
        clear y5 hmy
        as_aux_lemma =>
          have hq := heap_lt HP.out.row
          have hpp := heap_lt HP.out.head
          have hrr := HR0.out
          have hss := HS0.out
          have htt := HT0.out
          have hpb := HPB.out
          have hr9 := heap_lt HR.out.head
          have hs9 := heap_lt HR.out.st
          have ht9 := heap_lt HR.out.we
          have HPA := hide (show PoolAt (wr.alloc (.cells #[.int .i64 xd, .int .i64 xb, .int .i64 xn] 31)) (w.heap.size + 1) w.heap.size M from HP.out.below ((Below.refl _ _).alloc (Nat.le_refl _) _))
          have HRA := hide (show RPAt (wr.alloc (.cells #[.int .i64 xd, .int .i64 xb, .int .i64 xn] 31)) r s t M from HR.out.below ((Below.refl _ _).alloc (Nat.le_refl _) _))
          have HBA := hide (HB.out.alloc HB.out.size (.cells #[.int .i64 xd, .int .i64 xb, .int .i64 xn] 31))
          have hml := hide (show M.length ≤ 1000000 by have := HM.out; omega)
          have HM' := hide ((takeL_len true M).trans HM.out)
          have HW' := hide (HW.out.take true)
          have HTK := hide (most_any (w.heap.size + 1) w.heap.size M hml.out _ HPA.out)
          have HRT := hide (fun W hW => rtake_any true r s t M hml.out W hW)
          generalize takeZ true M = zz at *
          obtain ⟨zk, ze⟩ := zz
          simp only at HTK HRT
          generalize hll : takeL true M = M' at *
          clear hll
          go_wp2_with fail
          refine HTK.out.mono ?_
          rintro e w5 ⟨rfl, hp5, ho5⟩
          have HP5 := hide hp5
          have HR5 := hide (HRA.out.only ho5 (by omega) (by omega) (by omega))
          have HB5 := hide (ho5.below HBA.out (Nat.le_refl _) HBA.out.size)
          clear hp5 ho5 HTK
          go_wp2_with fail
          refine (HRT.out _ HR5.out).mono ?_
          rintro e w6 ⟨rfl, hr6, ho6⟩
          have HPX := hide (HP5.out.only ho6 (by omega) (by omega))
          have HRX := hide hr6
          have HBX := hide (ho6.below HB5.out (by omega) HB5.out.size)
          clear hr6 ho6 HP5 HR5 HB5 HPA HRA HBA hq hpp hrr hss htt hpb hr9 hs9 ht9 HRT
          clear d0 d1 d2 hbw HP HR HB
          obtain ⟨wo, rfl⟩ : ∃ wo : World, wo = w6 := ⟨_, rfl⟩
          go_wp2_with fail
          go_loopw [133, 11] (fun i ok W => ∃ j : Nat, j ≤ n ∧ i = .int .i64 j ∧ ok = .bool true ∧ PoolAt W (w.heap.size + 1) w.heap.size M' ∧ RPAt W r s t M' ∧ Below w.heap.size w W) (fun i _ _ => n - (intOf i).toNat)
          case atStart => exact ⟨0, by omega, rfl, rfl, HPX.out, HRX.out, HBX.out⟩
          case round =>
            clear HPX HRX HBX
            obtain ⟨j, hj, rfl, rfl, hp, hr, hB⟩ := hrel
            have HPX := hide hp
            have HRX := hide hr
            have HBX := hide hB
            by_cases hlj : j < n
            · obtain ⟨c0, c1⟩ := hr.cells
              obtain ⟨a0, a1, -⟩ := hr.at j (by rw [HM'.out]; exact hlj)
              have HSA := hide (fun W hW => state_at (w.heap.size + 1) w.heap.size M' j (by rw [HM'.out]; exact hlj) W hW)
              have HWA := hide (fun W hW => wear_at (w.heap.size + 1) w.heap.size M' j (by rw [HM'.out]; exact hlj) W hW)
              rw [HM'.out] at c0 c1
              have hj0 : (0 : Int) ≤ j := by omega
              have hjn : (j : Int) < n := by omega
              clear hp hr hB
              generalize (M'.getD j (0, 0)).1 = xx at *
              generalize (M'.getD j (0, 0)).2 = yy at *
              go_wp2_with fail
              have HC0 := hide c0
              have HC1 := hide c1
              have HA0 := hide a0
              have HA1 := hide a1
              clear c0 c1 a0 a1
              refine wp_region_held_drew (S := (fun W => W.cell? ⟨r, 0, none⟩ = some (.slice (some ⟨s, 0, none⟩) n n) ∧ W.cell? ⟨r, 1, none⟩ = some (.slice (some ⟨t, 0, none⟩) n n) ∧ W.cell? ⟨s, j, none⟩ = some (.int .i64 xx) ∧ W.cell? ⟨t, j, none⟩ = some (.int .i64 yy))) (by kernel_rfl) (⟨HC0.out, HC1.out, HA0.out, HA1.out⟩) (fun hHeld => ?_)
              refine wpAnyH_take (i := 0) (oi := { dst := some 136, op := Op.move (Operand.tmp 11), type := 4, pos := "law.go:50", after := #[], guard := none }) (v := ?_) rfl (by kernel_rfl) (by kernel_rfl) (by kernel_rfl) (fun _ _ _ h => h) (Or.inl ⟨by kernel_rfl, ?_⟩) hHeld ?_
              rotate_left
              · (intro w hSw; (try dsimp only at hSw); go_simp); try with_reducible rfl
              try simp only [Act.put, List.setIfInBounds_toArray, List.set_cons_zero, List.set_cons_succ]
              refine wpAnyH_take (i := 1) (oi := { dst := some 137, op := Op.move (Operand.tmp 136), type := 4, pos := "law.go:50", after := #[{ on := 0, ground := Ground.data }], guard := none }) (v := ?_) rfl (by kernel_rfl) (by kernel_rfl) (by kernel_rfl) (fun _ _ _ h => h) (Or.inl ⟨by kernel_rfl, ?_⟩) hHeld ?_
              rotate_left
              · (intro w hSw; (try dsimp only at hSw); go_simp); try with_reducible rfl
              try simp only [Act.put, List.setIfInBounds_toArray, List.set_cons_zero, List.set_cons_succ]
              refine wpAnyH_take (i := 2) (oi := { dst := some 138, op := Op.move (Operand.tmp 6), type := 23, pos := "law.go:50", after := #[{ on := 1, ground := Ground.guard }], guard := some (1, true) }) (v := ?_) rfl (by kernel_rfl) (by kernel_rfl) (by kernel_rfl) (fun _ _ _ h => h) (Or.inl ⟨by kernel_rfl, ?_⟩) hHeld ?_
              rotate_left
              · (intro w hSw; (try dsimp only at hSw); go_simp); try with_reducible rfl
              try simp only [Act.put, List.setIfInBounds_toArray, List.set_cons_zero, List.set_cons_succ]
              refine wpAnyH_take (i := 3) (oi := { dst := some 139, op := Op.move (Operand.tmp 20), type := 3, pos := "law.go:50", after := #[{ on := 1, ground := Ground.guard }], guard := some (1, true) }) (v := ?_) rfl (by kernel_rfl) (by kernel_rfl) (by kernel_rfl) (fun _ _ _ h => h) (Or.inl ⟨by kernel_rfl, ?_⟩) hHeld ?_
              rotate_left
              · (intro w hSw; (try dsimp only at hSw); go_simp); try with_reducible rfl
              try simp only [Act.put, List.setIfInBounds_toArray, List.set_cons_zero, List.set_cons_succ]
              refine wpAnyH_take (i := 5) (oi := { dst := some 141, op := Op.move (Operand.tmp 8), type := 27, pos := "law.go:50", after := #[{ on := 1, ground := Ground.guard }], guard := some (1, true) }) (v := ?_) rfl (by kernel_rfl) (by kernel_rfl) (by kernel_rfl) (fun _ _ _ h => h) (Or.inl ⟨by kernel_rfl, ?_⟩) hHeld ?_
              rotate_left
              · (intro w hSw; (try dsimp only at hSw); go_simp); try with_reducible rfl
              try simp only [Act.put, List.setIfInBounds_toArray, List.set_cons_zero, List.set_cons_succ]
              refine wpAnyH_take (i := 6) (oi := { dst := some 142, op := Op.nilCheck (Operand.tmp 141), type := 0, pos := "law.go:50", after := #[{ on := 5, ground := Ground.data }, { on := 1, ground := Ground.guard }], guard := some (1, true) }) (v := ?_) rfl (by kernel_rfl) (by kernel_rfl) (by kernel_rfl) (fun _ _ _ h => h) (Or.inl ⟨by kernel_rfl, ?_⟩) hHeld ?_
              rotate_left
              · (intro w hSw; (try dsimp only at hSw); go_simp); try with_reducible rfl
              try simp only [Act.put, List.setIfInBounds_toArray, List.set_cons_zero, List.set_cons_succ]
              refine wpAnyH_take (i := 7) (oi := { dst := some 143, op := Op.fieldAddr 43 (Operand.tmp 142) 0, type := 0, pos := "law.go:50", after := #[{ on := 6, ground := Ground.data }, { on := 1, ground := Ground.guard }], guard := some (1, true) }) (v := ?_) rfl (by kernel_rfl) (by kernel_rfl) (by kernel_rfl) (fun _ _ _ h => h) (Or.inl ⟨by kernel_rfl, ?_⟩) hHeld ?_
              rotate_left
              · (intro w hSw; (try dsimp only at hSw); go_simp); try with_reducible rfl
              try simp only [Act.put, List.setIfInBounds_toArray, List.set_cons_zero, List.set_cons_succ]
              refine wpAnyH_take (i := 8) (oi := { dst := some 144, op := Op.load 41 (Operand.tmp 143), type := 41, pos := "law.go:50", after := #[{ on := 7, ground := Ground.data }, { on := 1, ground := Ground.guard }], guard := some (1, true) }) (v := ?_) rfl (by kernel_rfl) (by kernel_rfl) (by kernel_rfl) (fun _ _ _ h => h) (Or.inl ⟨by kernel_rfl, ?_⟩) hHeld ?_
              rotate_left
              · (intro w hSw; (try dsimp only at hSw); go_simp); try with_reducible rfl
              try simp only [Act.put, List.setIfInBounds_toArray, List.set_cons_zero, List.set_cons_succ]
              refine wpAnyH_take (i := 9) (oi := { dst := some 145, op := Op.move (Operand.tmp 20), type := 3, pos := "law.go:50", after := #[{ on := 1, ground := Ground.guard }], guard := some (1, true) }) (v := ?_) rfl (by kernel_rfl) (by kernel_rfl) (by kernel_rfl) (fun _ _ _ h => h) (Or.inl ⟨by kernel_rfl, ?_⟩) hHeld ?_
              rotate_left
              · (intro w hSw; (try dsimp only at hSw); go_simp); try with_reducible rfl
              try simp only [Act.put, List.setIfInBounds_toArray, List.set_cons_zero, List.set_cons_succ]
              refine wpAnyH_take (i := 10) (oi := { dst := some 146, op := Op.indexAddr 41 (Operand.tmp 144) (Operand.tmp 145), type := 0, pos := "law.go:50", after := #[{ on := 8, ground := Ground.data }, { on := 9, ground := Ground.data }, { on := 1, ground := Ground.guard }], guard := some (1, true) }) (v := ?_) rfl (by kernel_rfl) (by kernel_rfl) (by kernel_rfl) (fun _ _ _ h => h) (Or.inl ⟨by kernel_rfl, ?_⟩) hHeld ?_
              rotate_left
              · (intro w hSw; (try dsimp only at hSw); go_simp); try with_reducible rfl
              try simp only [Act.put, List.setIfInBounds_toArray, List.set_cons_zero, List.set_cons_succ]
              refine wpAnyH_take (i := 11) (oi := { dst := some 147, op := Op.load 3 (Operand.tmp 146), type := 3, pos := "law.go:50", after := #[{ on := 10, ground := Ground.data }, { on := 1, ground := Ground.guard }], guard := some (1, true) }) (v := ?_) rfl (by kernel_rfl) (by kernel_rfl) (by kernel_rfl) (fun _ _ _ h => h) (Or.inl ⟨by kernel_rfl, ?_⟩) hHeld ?_
              rotate_left
              · (intro w hSw; (try dsimp only at hSw); go_simp); try with_reducible rfl
              try simp only [Act.put, List.setIfInBounds_toArray, List.set_cons_zero, List.set_cons_succ]
              refine wpAnyH_ready (rs := [4]) (by kernel_rfl) (by simp) ?_
              refine AllReadyH.cons (o := { dst := some 140, op := Op.call { callee := Callee.value (Operand.func 17), args := #[Operand.tmp 138, Operand.tmp 139], argTypes := #[23, 3] }, type := 33, pos := "law.go:50", after := #[{ on := 2, ground := Ground.data }, { on := 3, ground := Ground.data }, { on := 1, ground := Ground.chain }, { on := 1, ground := Ground.guard }], guard := some (1, true) }) rfl (fun K hK => ?_) AllReadyH.nil
              have hOld := hide hHeld
              clear hHeld
              go_simp
              refine (HSA.out _ HPX.out.drew).mono ?_
              rintro e w7 ⟨rfl, rfl⟩
              (try go_wp2_with fail)
              refine hK.out _ _ (hOld.out) (fun hHeld => ?_)
              clear hK K hOld
              try simp only [Act.put, List.setIfInBounds_toArray, List.set_cons_zero, List.set_cons_succ]
              refine wpAnyH_take (i := 12) (oi := { dst := some 148, op := Op.binOp BinOp.eql 3 (Operand.tmp 140) (Operand.tmp 147) 3, type := 4, pos := "law.go:50", after := #[{ on := 4, ground := Ground.data }, { on := 11, ground := Ground.data }, { on := 1, ground := Ground.guard }], guard := some (1, true) }) (v := ?_) rfl (by kernel_rfl) (by kernel_rfl) (by kernel_rfl) (fun _ _ _ h => h) (Or.inl ⟨by kernel_rfl, ?_⟩) hHeld ?_
              rotate_left
              · (intro w hSw; (try dsimp only at hSw); go_simp); try with_reducible rfl
              try simp only [Act.put, List.setIfInBounds_toArray, List.set_cons_zero, List.set_cons_succ]
              refine wpAnyH_take (i := 13) (oi := { dst := some 149, op := Op.pick (Operand.tmp 137) (Operand.tmp 148) (Operand.const (Value.bool false)), type := 4, pos := "law.go:50", after := #[{ on := 1, ground := Ground.data }, { on := 12, ground := Ground.data }], guard := none }) (v := ?_) rfl (by kernel_rfl) (by kernel_rfl) (by kernel_rfl) (fun _ _ _ h => h) (Or.inl ⟨by kernel_rfl, ?_⟩) hHeld ?_
              rotate_left
              · (intro w hSw; (try dsimp only at hSw); go_simp); try with_reducible rfl
              try simp only [Act.put, List.setIfInBounds_toArray, List.set_cons_zero, List.set_cons_succ]
              refine wpAnyH_take (i := 14) (oi := { dst := some 150, op := Op.move (Operand.tmp 149), type := 4, pos := "law.go:50", after := #[{ on := 13, ground := Ground.data }, { on := 4, ground := Ground.chain }], guard := none }) (v := ?_) rfl (by kernel_rfl) (by kernel_rfl) (by kernel_rfl) (fun _ _ _ h => h) (Or.inl ⟨by kernel_rfl, ?_⟩) hHeld ?_
              rotate_left
              · (intro w hSw; (try dsimp only at hSw); go_simp); try with_reducible rfl
              try simp only [Act.put, List.setIfInBounds_toArray, List.set_cons_zero, List.set_cons_succ]
              refine wpAnyH_take (i := 15) (oi := { dst := some 151, op := Op.move (Operand.tmp 6), type := 23, pos := "law.go:50", after := #[{ on := 14, ground := Ground.guard }], guard := some (14, true) }) (v := ?_) rfl (by kernel_rfl) (by kernel_rfl) (by kernel_rfl) (fun _ _ _ h => h) (Or.inl ⟨by kernel_rfl, ?_⟩) hHeld ?_
              rotate_left
              · (intro w hSw; (try dsimp only at hSw); go_simp); try with_reducible rfl
              try simp only [Act.put, List.setIfInBounds_toArray, List.set_cons_zero, List.set_cons_succ]
              refine wpAnyH_take (i := 16) (oi := { dst := some 152, op := Op.move (Operand.tmp 20), type := 3, pos := "law.go:50", after := #[{ on := 14, ground := Ground.guard }], guard := some (14, true) }) (v := ?_) rfl (by kernel_rfl) (by kernel_rfl) (by kernel_rfl) (fun _ _ _ h => h) (Or.inl ⟨by kernel_rfl, ?_⟩) hHeld ?_
              rotate_left
              · (intro w hSw; (try dsimp only at hSw); go_simp); try with_reducible rfl
              try simp only [Act.put, List.setIfInBounds_toArray, List.set_cons_zero, List.set_cons_succ]
              refine wpAnyH_take (i := 18) (oi := { dst := some 154, op := Op.move (Operand.tmp 8), type := 27, pos := "law.go:50", after := #[{ on := 14, ground := Ground.guard }], guard := some (14, true) }) (v := ?_) rfl (by kernel_rfl) (by kernel_rfl) (by kernel_rfl) (fun _ _ _ h => h) (Or.inl ⟨by kernel_rfl, ?_⟩) hHeld ?_
              rotate_left
              · (intro w hSw; (try dsimp only at hSw); go_simp); try with_reducible rfl
              try simp only [Act.put, List.setIfInBounds_toArray, List.set_cons_zero, List.set_cons_succ]
              refine wpAnyH_take (i := 19) (oi := { dst := some 155, op := Op.nilCheck (Operand.tmp 154), type := 0, pos := "law.go:50", after := #[{ on := 18, ground := Ground.data }, { on := 14, ground := Ground.guard }], guard := some (14, true) }) (v := ?_) rfl (by kernel_rfl) (by kernel_rfl) (by kernel_rfl) (fun _ _ _ h => h) (Or.inl ⟨by kernel_rfl, ?_⟩) hHeld ?_
              rotate_left
              · (intro w hSw; (try dsimp only at hSw); go_simp); try with_reducible rfl
              try simp only [Act.put, List.setIfInBounds_toArray, List.set_cons_zero, List.set_cons_succ]
              refine wpAnyH_take (i := 20) (oi := { dst := some 156, op := Op.fieldAddr 43 (Operand.tmp 155) 1, type := 0, pos := "law.go:50", after := #[{ on := 19, ground := Ground.data }, { on := 14, ground := Ground.guard }], guard := some (14, true) }) (v := ?_) rfl (by kernel_rfl) (by kernel_rfl) (by kernel_rfl) (fun _ _ _ h => h) (Or.inl ⟨by kernel_rfl, ?_⟩) hHeld ?_
              rotate_left
              · (intro w hSw; (try dsimp only at hSw); go_simp); try with_reducible rfl
              try simp only [Act.put, List.setIfInBounds_toArray, List.set_cons_zero, List.set_cons_succ]
              refine wpAnyH_take (i := 21) (oi := { dst := some 157, op := Op.load 41 (Operand.tmp 156), type := 41, pos := "law.go:50", after := #[{ on := 20, ground := Ground.data }, { on := 14, ground := Ground.guard }], guard := some (14, true) }) (v := ?_) rfl (by kernel_rfl) (by kernel_rfl) (by kernel_rfl) (fun _ _ _ h => h) (Or.inl ⟨by kernel_rfl, ?_⟩) hHeld ?_
              rotate_left
              · (intro w hSw; (try dsimp only at hSw); go_simp); try with_reducible rfl
              try simp only [Act.put, List.setIfInBounds_toArray, List.set_cons_zero, List.set_cons_succ]
              refine wpAnyH_take (i := 22) (oi := { dst := some 158, op := Op.move (Operand.tmp 20), type := 3, pos := "law.go:50", after := #[{ on := 14, ground := Ground.guard }], guard := some (14, true) }) (v := ?_) rfl (by kernel_rfl) (by kernel_rfl) (by kernel_rfl) (fun _ _ _ h => h) (Or.inl ⟨by kernel_rfl, ?_⟩) hHeld ?_
              rotate_left
              · (intro w hSw; (try dsimp only at hSw); go_simp); try with_reducible rfl
              try simp only [Act.put, List.setIfInBounds_toArray, List.set_cons_zero, List.set_cons_succ]
              refine wpAnyH_take (i := 23) (oi := { dst := some 159, op := Op.indexAddr 41 (Operand.tmp 157) (Operand.tmp 158), type := 0, pos := "law.go:50", after := #[{ on := 21, ground := Ground.data }, { on := 22, ground := Ground.data }, { on := 14, ground := Ground.guard }], guard := some (14, true) }) (v := ?_) rfl (by kernel_rfl) (by kernel_rfl) (by kernel_rfl) (fun _ _ _ h => h) (Or.inl ⟨by kernel_rfl, ?_⟩) hHeld ?_
              rotate_left
              · (intro w hSw; (try dsimp only at hSw); go_simp); try with_reducible rfl
              try simp only [Act.put, List.setIfInBounds_toArray, List.set_cons_zero, List.set_cons_succ]
              refine wpAnyH_take (i := 24) (oi := { dst := some 160, op := Op.load 3 (Operand.tmp 159), type := 3, pos := "law.go:50", after := #[{ on := 23, ground := Ground.data }, { on := 14, ground := Ground.guard }], guard := some (14, true) }) (v := ?_) rfl (by kernel_rfl) (by kernel_rfl) (by kernel_rfl) (fun _ _ _ h => h) (Or.inl ⟨by kernel_rfl, ?_⟩) hHeld ?_
              rotate_left
              · (intro w hSw; (try dsimp only at hSw); go_simp); try with_reducible rfl
              try simp only [Act.put, List.setIfInBounds_toArray, List.set_cons_zero, List.set_cons_succ]
              refine wpAnyH_ready (rs := [17]) (by kernel_rfl) (by simp) ?_
              refine AllReadyH.cons (o := { dst := some 153, op := Op.call { callee := Callee.value (Operand.func 18), args := #[Operand.tmp 151, Operand.tmp 152], argTypes := #[23, 3] }, type := 3, pos := "law.go:50", after := #[{ on := 15, ground := Ground.data }, { on := 16, ground := Ground.data }, { on := 14, ground := Ground.chain }, { on := 14, ground := Ground.guard }], guard := some (14, true) }) rfl (fun K hK => ?_) AllReadyH.nil
              have hOld := hide hHeld
              clear hHeld
              go_simp
              refine (HWA.out _ HPX.out.drew).mono ?_
              rintro e w7 ⟨rfl, rfl⟩
              (try go_wp2_with fail)
              refine hK.out _ _ (hOld.out) (fun hHeld => ?_)
              clear hK K hOld
              try simp only [Act.put, List.setIfInBounds_toArray, List.set_cons_zero, List.set_cons_succ]
              refine wpAnyH_take (i := 25) (oi := { dst := some 161, op := Op.binOp BinOp.eql 3 (Operand.tmp 153) (Operand.tmp 160) 3, type := 4, pos := "law.go:50", after := #[{ on := 17, ground := Ground.data }, { on := 24, ground := Ground.data }, { on := 14, ground := Ground.guard }], guard := some (14, true) }) (v := ?_) rfl (by kernel_rfl) (by kernel_rfl) (by kernel_rfl) (fun _ _ _ h => h) (Or.inl ⟨by kernel_rfl, ?_⟩) hHeld ?_
              rotate_left
              · (intro w hSw; (try dsimp only at hSw); go_simp); try with_reducible rfl
              try simp only [Act.put, List.setIfInBounds_toArray, List.set_cons_zero, List.set_cons_succ]
              refine wpAnyH_take (i := 26) (oi := { dst := some 162, op := Op.pick (Operand.tmp 150) (Operand.tmp 161) (Operand.const (Value.bool false)), type := 4, pos := "law.go:50", after := #[{ on := 14, ground := Ground.data }, { on := 25, ground := Ground.data }], guard := none }) (v := ?_) rfl (by kernel_rfl) (by kernel_rfl) (by kernel_rfl) (fun _ _ _ h => h) (Or.inl ⟨by kernel_rfl, ?_⟩) hHeld ?_
              rotate_left
              · (intro w hSw; (try dsimp only at hSw); go_simp); try with_reducible rfl
              try simp only [Act.put, List.setIfInBounds_toArray, List.set_cons_zero, List.set_cons_succ]
              refine wpAnyH_take (i := 27) (oi := { dst := some 11, op := Op.assign (Operand.tmp 162), type := 4, pos := "law.go:50", after := #[{ on := 26, ground := Ground.data }, { on := 17, ground := Ground.chain }, { on := 0, ground := Ground.phase }, { on := 1, ground := Ground.phase }, { on := 2, ground := Ground.phase }, { on := 3, ground := Ground.phase }, { on := 4, ground := Ground.phase }, { on := 5, ground := Ground.phase }, { on := 6, ground := Ground.phase }, { on := 7, ground := Ground.phase }, { on := 8, ground := Ground.phase }, { on := 9, ground := Ground.phase }, { on := 10, ground := Ground.phase }, { on := 11, ground := Ground.phase }, { on := 12, ground := Ground.phase }, { on := 13, ground := Ground.phase }, { on := 14, ground := Ground.phase }, { on := 15, ground := Ground.phase }, { on := 16, ground := Ground.phase }, { on := 17, ground := Ground.phase }, { on := 18, ground := Ground.phase }, { on := 19, ground := Ground.phase }, { on := 20, ground := Ground.phase }, { on := 21, ground := Ground.phase }, { on := 22, ground := Ground.phase }, { on := 23, ground := Ground.phase }, { on := 24, ground := Ground.phase }, { on := 25, ground := Ground.phase }, { on := 26, ground := Ground.phase }], guard := none }) (v := ?_) rfl (by kernel_rfl) (by kernel_rfl) (by kernel_rfl) (fun _ _ _ h => h) (Or.inl ⟨by kernel_rfl, ?_⟩) hHeld ?_
              rotate_left
              · (intro w hSw; (try dsimp only at hSw); go_simp); try with_reducible rfl
              try simp only [Act.put, List.setIfInBounds_toArray, List.set_cons_zero, List.set_cons_succ]
              refine wpAnyH_done (by kernel_rfl) ?_ _
              go_wp2_with fail
              go_roundw
              case rel => exact ⟨j + 1, by omega, by go_num, rfl, HPX.out.drew, HRX.out.drew, HBX.out.drew⟩
              case measure => simp [intOf]; omega
            · obtain rfl : j = n := by omega
              clear hp hr hB
              obtain ⟨wq, rfl⟩ : ∃ wq : World, wq = wr := ⟨_, rfl⟩
              go_wp2_with fail
              go_loopw [164, 11] (fun i ok W => ∃ c : Nat, c ≤ 5 ∧ i = .int .i64 c ∧ ok = .bool true ∧ PoolAt W (w.heap.size + 1) w.heap.size M' ∧ RPAt W r s t M' ∧ Below w.heap.size w W) (fun i _ _ => 5 - (intOf i).toNat)
              case atStart => exact ⟨0, by omega, rfl, rfl, HPX.out, HRX.out, HBX.out⟩
              case round =>
                clear HPX HRX HBX
                obtain ⟨c, hc5, rfl, rfl, hp, hr, hB⟩ := hrel
                have HPX := hide hp
                have HRX := hide hr
                have HBX := hide hB
                have hml := hide (show M'.length ≤ 1000000 by have := HM'.out; omega)
                by_cases hlc : c < 5
                · have HC1 := hide (count_any (w.heap.size + 1) w.heap.size M' hml.out c wr hp)
                  have HC2 := hide (fun W hW => rcount_any r s t M' hml.out c W hW)
                  generalize (cntK M' c M'.length : Int) = cc at *
                  clear hp hr hB
                  go_wp2_with fail
                  refine HC1.out.mono ?_
                  rintro e w7 ⟨rfl, hb7⟩
                  have HP7 := hide (HPX.out.below hb7)
                  have HR7 := hide (HRX.out.below hb7)
                  have HB7 := hide (below_trans HBX.out hb7)
                  clear hb7
                  go_wp2_with fail
                  refine (HC2.out _ HR7.out).mono ?_
                  rintro e w8 ⟨rfl, rfl⟩
                  go_wp2_with fail
                  go_roundw
                  case rel => exact ⟨c + 1, by omega, by go_num, rfl, HP7.out, HR7.out, HB7.out⟩
                  case measure => simp [intOf]; omega
                · obtain rfl : c = 5 := by omega
                  have HC1 := hide (spread_any (w.heap.size + 1) w.heap.size M' hml.out wr hp)
                  have HC2 := hide (fun W hW => rspread_any r s t M' HW'.out hml.out W hW)
                  have HS1 := hide (fun W hW => state_out (w.heap.size + 1) w.heap.size M' (j : Int) (by rw [HM'.out]; omega) W hW)
                  have HS2 := hide (fun W hW => state_out (w.heap.size + 1) w.heap.size M' (-1) (by omega) W hW)
                  have HS3 := hide (fun W hW => wear_out (w.heap.size + 1) w.heap.size M' (j : Int) (by rw [HM'.out]; omega) W hW)
                  generalize spreadZ M' = zz at *
                  obtain ⟨lo, hi⟩ := zz
                  simp only at HC1 HC2
                  clear hp hr hB
                  go_wp2_with fail
                  refine HC1.out.mono ?_
                  rintro e w7 ⟨rfl, hb7⟩
                  have HP7 := hide (HPX.out.below hb7)
                  have HR7 := hide (HRX.out.below hb7)
                  have HB7 := hide (below_trans HBX.out hb7)
                  clear hb7
                  go_wp2_with fail
                  refine (HC2.out _ HR7.out).mono ?_
                  rintro e w8 ⟨rfl, rfl⟩
                  go_wp2_with fail
                  refine (HS1.out _ HP7.out).mono ?_
                  rintro e w9 ⟨rfl, rfl⟩
                  go_wp2_with fail
                  refine (HS2.out _ HP7.out).mono ?_
                  rintro e w10 ⟨rfl, rfl⟩
                  go_wp2_with fail
                  refine (HS3.out _ HP7.out).mono ?_
                  rintro e w11 ⟨rfl, rfl⟩
                  go_wp2_with fail
                  go_roundw
                  case rel => exact ⟨k + 1, M', by omega, by go_num, HM'.out, HW'.out, HP7.out, HR7.out, HB7.out⟩
                  case measure => simp [intOf]; omega
    · obtain rfl : k = 60 := by omega
      clear hp hr hM hW hB
      go_wp2
      go_ret
      exact ⟨rfl, HB.out⟩
end Go.Proofs.Ytbkbigpijdljpaa
