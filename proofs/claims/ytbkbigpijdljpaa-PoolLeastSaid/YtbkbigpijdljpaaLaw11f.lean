/-
  Layer 11: PoolLeast.
-/
import Derived.Test.YtbkbigpijdljpaaKitM
import Derived.Test.YtbkbigpijdljpaaLaw11b
namespace Go.Proofs.Ytbkbigpijdljpaa
set_option linter.unusedSimpArgs false
set_option linter.unusedVariables false
open Go.RowKit Go.WideShapes Go.ChangeShapes Go.ChangeAt

theorem PoolAt.only1 {w w' : World} {p q k : Nat} {L : List (Int × Int)} (h : PoolAt w p q L) (hb : Only k w w') (q1 : p ≠ k) (q2 : q ≠ k) : PoolAt w' p q L :=
  ⟨by rw [hb.block p (heap_lt h.head) q1]; exact h.head, by rw [hb.block q (heap_lt h.row) q2]; exact h.row, h.ne⟩
theorem Keyed_int : Go.Maps.Keyed Try.prog 3 := Go.Maps.int_keyed Try.underlying3
theorem zero_bool (w : World) : (zeroValue 4).run Try.prog w = .ok (.bool false) w := by kernel_rfl
theorem key_int {a : Int} (h0 : -9223372036854775808 ≤ a) (h1 : a ≤ 9223372036854775807) : keyOf Try.prog 3 (.int .i64 a) = some (.int .i64 a) := Go.Maps.keyOf_int_mk Try.underlying3 (WalkArith.wf_i64 ⟨h0, h1⟩)
/-- which of the first k blocks were free -/
def freeF (M : List (Int × Int)) (k : Nat) (l : Lit) : Option Value :=
  match l with
  | .int .i64 a => if 0 ≤ a ∧ a < k then some (.bool ((M.getD a.toNat (0, 0)).1 == 1)) else none
  | _ => none
theorem freeF_next (M : List (Int × Int)) (k : Nat) : (fun l : Lit => if l.sameKey (.int .i64 (k : Int)) = true then some (Value.bool ((M.getD k (0, 0)).1 == 1)) else freeF M k l) = freeF M (k + 1) := by
  funext l
  by_cases h : l.sameKey (.int .i64 (k : Int)) = true
  · rw [if_pos h, WideAt.sameKey_eq h]
    simp [freeF]
    omega
  · rw [if_neg h]
    unfold freeF
    split
    · rename_i a
      have ha : a ≠ k := fun e => h (by rw [e]; exact WideAt.sameKey_self trivial)
      by_cases h2 : 0 ≤ a ∧ a < k
      · rw [if_pos h2, if_pos (by omega)]
      · rw [if_neg h2, if_neg (by omega)]
    · rfl
theorem freeF_none (M : List (Int × Int)) (k : Nat) (h : k = 0) : freeF M k = fun _ => none := by
  subst h
  funext l
  unfold freeF
  split
  · rw [if_neg (by omega)]
  · rfl
theorem freeF_at (M : List (Int × Int)) (n j : Nat) (h : j < n) (z : Value) : (freeF M n (.int .i64 (j : Int))).getD z = .bool ((M.getD j (0, 0)).1 == 1) := by
  simp [freeF]
  rw [if_pos (by omega)]
  rfl
/-- a list of bytes that came in, at whatever address -/
theorem nums_at {w : World} {k : IntKind} {v : Value} {zs : List Int} (h : NumsAt w k v zs) : ∃ (a : Option Addr) (cap : Nat), v = .slice a zs.length cap ∧ zs.length ≤ cap ∧ ∀ i, i < zs.length → ∃ b off, a = some ⟨b, off, none⟩ ∧ b < w.heap.size ∧ w.cell? ⟨b, off + i, none⟩ = some (.int k (zs.getD i 0)) := by
  rcases h with ⟨rfl, rfl⟩ | ⟨b, off, cap, rfl, hc, hm, hp, hi⟩ | ⟨a, cap, rfl, rfl⟩
  · exact ⟨none, 0, rfl, Nat.le_refl _, fun i hi => by simp at hi⟩
  · exact ⟨some ⟨b, off, none⟩, cap, rfl, hc, fun i hil => ⟨b, off, rfl, World.block_lt_of_cell? w _ (hi i hil), hi i hil⟩⟩
  · exact ⟨some a, cap, rfl, Nat.zero_le _, fun i hi => by simp at hi⟩
theorem lst_set_self (M : List (Int × Int)) (j : Nat) (hj : j < M.length) (v : Int) (h1 : (M.getD j (0, 0)).1 = 1) : setL (M.set j (2, (M.getD j (0, 0)).2)) j 1 = M ∧ setE (M.set j (2, (M.getD j (0, 0)).2)) j 1 = 0 := by
  have e1 : (M.set j (2, (M.getD j (0, 0)).2)).getD j (0, 0) = (2, (M.getD j (0, 0)).2) := by rw [getD_set _ _ _ _ hj, if_pos rfl]
  have e : setE (M.set j (2, (M.getD j (0, 0)).2)) j 1 = 0 := by
    unfold setE
    rw [List.length_set, if_pos (by omega), if_neg (by omega), Int.toNat_natCast, e1]
    rfl
  refine ⟨?_, e⟩
  unfold setL
  rw [if_pos e, Int.toNat_natCast, e1, List.set_set]
  apply List.ext_getElem?
  intro i
  rw [List.getElem?_set]
  by_cases h : j = i
  · subst h
    rw [if_pos rfl, if_pos hj, List.getElem?_eq_getElem hj]
    simp only [List.getD, List.getElem?_eq_getElem hj, Option.getD_some] at h1 ⊢
    rw [← h1]
  · rw [if_neg h]
theorem take_some (most : Bool) (M : List (Int × Int)) (h : 0 ≤ bestK most M M.length) : ∃ j : Nat, j < M.length ∧ takeZ most M = ((j : Int), 0) ∧ takeL most M = M.set j (2, (M.getD j (0, 0)).2) ∧ (M.getD j (0, 0)).1 = 1 ∧ ∀ i, i < M.length → (M.getD i (0, 0)).1 = 1 → ¬ aheadB most (M.getD i (0, 0)).2 (M.getD j (0, 0)).2 = true := by
  obtain ⟨hs, -⟩ := bestK_some most M M.length
  have hb := bestK_bd most M M.length
  obtain ⟨j, hj⟩ := Int.eq_ofNat_of_zero_le h
  obtain ⟨h1, h2⟩ := hs h
  rw [hj, Int.toNat_natCast] at h1 h2
  refine ⟨j, by omega, ?_, ?_, h1, h2⟩
  · unfold takeZ; rw [if_neg (by omega), hj]
  · unfold takeL; rw [if_neg (by omega), hj, Int.toNat_natCast]
theorem take_none (most : Bool) (M : List (Int × Int)) (h : bestK most M M.length < 0) : takeZ most M = (0, 13) ∧ takeL most M = M := by
  unfold takeZ takeL
  rw [if_pos h, if_pos h]
  exact ⟨rfl, rfl⟩
theorem snd_set (M : List (Int × Int)) (j : Nat) (hj : j < M.length) (b : Nat) : ((M.set j (2, (M.getD j (0, 0)).2)).getD b (0, 0)).2 = (M.getD b (0, 0)).2 := by
  rw [getD_set _ _ _ _ hj]
  split
  · rename_i e; rw [e]
  · rfl
theorem state_at2 (p q : Nat) (L : List (Int × Int)) (i : Nat) (hi : i < L.length) (w : World) (h : PoolAt w p q L) :
    Calls Try.prog 17 #[.pointer (some ⟨p, 0, none⟩), .int .i64 (i : Int)] w fun e w' => e = .returned (.int .i64 (L.getD i (0, 0)).1) ∧ w = w' := by
  have := state_any p q L i w h
  rwa [show fstZ L i = (L.getD i (0, 0)).1 by rw [fstZ, if_pos (by omega), Int.toNat_natCast]] at this
theorem wear_at2 (p q : Nat) (L : List (Int × Int)) (i : Nat) (hi : i < L.length) (w : World) (h : PoolAt w p q L) :
    Calls Try.prog 18 #[.pointer (some ⟨p, 0, none⟩), .int .i64 (i : Int)] w fun e w' => e = .returned (.int .i64 (L.getD i (0, 0)).2) ∧ w = w' := by
  have := wear_any p q L i w h
  rwa [show sndZ L i = (L.getD i (0, 0)).2 by rw [sndZ, if_pos (by omega), Int.toNat_natCast]] at this
set_option maxRecDepth 100000 in
set_option maxHeartbeats 2000000 in
theorem poolLeast_none (zs : List Int) (hzs : ∀ z ∈ zs, (Lit.int .u8 z).wf = true) (a : Option Addr) (cap : Nat) (hcap : zs.length ≤ cap) (hmaxl : zs.length ≤ 9223372036854775807) (us : Int) (u0 : 0 ≤ us) (u1 : us ≤ 4294967295) (most : Bool) (w : World)
    (hat : ∀ i, i < zs.length → ∃ b off, a = some ⟨b, off, none⟩ ∧ b < w.heap.size ∧ w.cell? ⟨b, off + i, none⟩ = some (.int .u8 (zs.getD i 0))) (hbig : zs.length = 0) :
    Calls Try.prog 6 #[.slice a zs.length cap, .int .u32 us, .bool most] w fun e w' => e = .returned (.bool true) ∧ Below w.heap.size w w' := by
  have HZS := hide hzs
  have HAT := hide hat
  clear hzs hat
  have hmm := @run_makeMap Try.prog
  go_enter Try.func6, Try.ntmps6
  go_wp2_with fail
  have n1 : 1 ≤ 1 := Nat.le_refl _
  refine (new_yes 1 n1 (by omega) _).mono ?_
  rintro e w1 ⟨rfl, hp, hb⟩
  have HP := hide hp
  have HB := hide hb
  clear hp hb
  go_wp2_with fail
  refine (wakes11 _).mono ?_
  rintro e w3 ⟨rfl, hb3⟩
  have HP3 := hide (HP.out.below hb3)
  have HB3 := hide (below_trans HB.out hb3)
  clear hb3 HP HB
  go_wp2_with fail
  go_loopw [45] (fun i W => ∃ (k : Nat) (M : List (Int × Int)), k ≤ 0 ∧ i = .int .i64 k ∧ M.length = 1 ∧ PoolAt W (w.heap.size + 1) w.heap.size M ∧ Below w.heap.size w W) (fun i _ => 0 - (intOf i).toNat)
  case atStart => exact ⟨0, List.replicate 1 (1, 0), by omega, rfl, by simp, HP3.out, HB3.out⟩
  case round =>
    clear HP3 HB3
    obtain ⟨k, M, hk, rfl, hM, hp, hB⟩ := hrel
    have HPX := hide hp
    have HBX := hide hB
    have HML := hide hM
    by_cases hlt : k < 0
    · exact absurd hlt (by omega)
    · obtain rfl : k = 0 := by omega
      rw [show ((0 : Nat) : Int) = 0 from rfl]
      clear hp hB hM
      have hbm := heap_lt HPX.out.head
      have HM0 := hide (MapIs.made wr Try.prog 3)
      have HPA := hide (show PoolAt (wr.alloc (.map #[] 0)) (w.heap.size + 1) w.heap.size M from HPX.out.below ((Below.refl _ _).alloc (Nat.le_refl _) _))
      have HBA := hide (HBX.out.alloc HBX.out.size (.map #[] 0))
      generalize hbmm : wr.heap.size = bm at *
      have HBM := hide hbm
      clear HPX HBX hbm
      go_wp2_with fail
      go_loopw [66] (fun i W => ∃ (k : Nat) (cm : Nat), k ≤ 1 ∧ i = .int .i64 k ∧ PoolAt W (w.heap.size + 1) w.heap.size M ∧ MapIs W Try.prog 3 bm k cm (freeF M k) ∧ Below w.heap.size w W) (fun i _ => 1 - (intOf i).toNat)
      case atStart => exact ⟨0, 0, by omega, rfl, HPA.out, by rw [freeF_none M 0 rfl]; exact HM0.out, HBA.out⟩
      case round =>
        clear HPA HM0 HBA
        obtain ⟨j, cm, hj, rfl, hp, hm, hB⟩ := hrel
        have HPX := hide hp
        have HBX := hide hB
        have HMX := hide hm
        by_cases hlj : j < 1
        · obtain rfl : j = 0 := by omega
          have HS1 := hide (state_at2 (w.heap.size + 1) w.heap.size M 0 (by rw [HML.out]; exact hlj) wr hp)
          have HFN := hide (freeF_next M 0)
          generalize (M.getD 0 (0, 0)).1 = x at *
          clear hp hm hB
          go_wp2_with fail
          refine HS1.out.mono ?_
          rintro e w5 ⟨rfl, rfl⟩
          go_wp2_with (at_mapUpdate; refine wpList_mapStore _ rfl _ _ _ 54 rfl 3 4 Keyed_int Try.underlying54 bm 0 cm (freeF M 0) rfl HMX.out (by unfold maxLen; omega) (.int .i64 (0 : Int)) (.bool (x == 1)) (.int .i64 (0 : Int)) rfl rfl (key_int (by omega) (by omega)) trivial ?_; intro w6 hm6 hg6; have HM6 := hide hm6; have HO6 := hide (only_of_grown hg6); clear hm6 hg6)
          have HP7 := hide (HPX.out.only1 HO6.out (by have := HBM.out; omega) (by have := HBM.out; omega))
          have HB7 := hide (HO6.out.below HBX.out (by have := HBM.out; omega) HBX.out.size)
          go_roundw
          case rel => exact ⟨0 + 1, _, by omega, by go_num, HP7.out, by have := HM6.out; have h2 : (fun l : Lit => if l.sameKey (.int .i64 0) = true then some (Value.bool (x == 1)) else freeF M 0 l) = freeF M 1 := HFN.out; rw [h2] at this; exact this, HB7.out⟩
          case measure => simp [intOf] <;> omega
        · obtain rfl : 1 = j := by omega
          clear hp hm hB
          obtain ⟨wq, rfl⟩ : ∃ wq : World, wq = wr := ⟨_, rfl⟩
          have hML := HML.out
          by_cases hbest : bestK false M M.length < 0
          · obtain ⟨hz, hl⟩ := take_none false M hbest
            obtain ⟨-, hnone⟩ := bestK_some false M M.length
            have HNONE := hide (fun b (hb : b < 1) (h1 : (M.getD b (0, 0)).1 = 1) => (absurd (hnone ⟨b, by omega, h1⟩) (by omega) : False))
            have HTK := take_any (w.heap.size + 1) w.heap.size M (by omega) wq HPX.out
            rw [hz, hl] at HTK
            have HTK2 := hide HTK
            clear HTK hz hl hnone hbest hML
            cases most
            all_goals
              go_wp2_with fail
              refine HTK2.out.mono ?_
              rintro e w5 ⟨rfl, hp5, ho5⟩
              have HM5 := hide (HMX.out.only ho5 (by have := HBM.out; omega))
              have HB5 := hide (ho5.below HBX.out (Nat.le_refl _) HBX.out.size)
              clear HMX HBX HPX hp5 ho5
              have HPX := hide (show True from trivial)
              have HMX := HM5
              have HBX := HB5
              clear HM5 HB5
              go_wp2_with fail
              go_loopw [99] (fun i W => ∃ k : Nat, k ≤ 1 ∧ i = .int .i64 k ∧ MapIs W Try.prog 3 bm 1 cm (freeF M 1) ∧ Below w.heap.size w W) (fun i _ => 1 - (intOf i).toNat)
              case atStart => exact ⟨0, by omega, rfl, HMX.out, HBX.out⟩
              case round =>
                clear HPX HMX HBX
                obtain ⟨b, hb, rfl, hm, hB⟩ := hrel
                have HMX := hide hm
                have HBX := hide hB
                by_cases hlb : b < 1
                · have hlk := hm.look Keyed_int Try.underlying54 (zero_bool wr) (key_int (a := (b : Int)) (by omega) (by omega)) trivial
                  rw [freeF_at M 1 b hlb] at hlk
                  have hx1 : ((M.getD b (0, 0)).1 == 1) = false := beq_eq_false_iff_ne.2 (HNONE.out b hlb)
                  rw [hx1] at hlk
                  clear hm hB hx1
                  go_wp2_with fail
                  go_roundw
                  case rel => exact ⟨b + 1, by omega, by go_num, HMX.out, HBX.out⟩
                  case measure => simp [intOf] <;> omega
                · obtain rfl : 1 = b := by omega
                  clear hm hB
                  go_wp2
                  go_ret
                  exact ⟨rfl, HBX.out⟩
          · obtain ⟨j, hjn, hz, hl, hj1, hall⟩ := take_some false M (by have := bestK_bd false M M.length; omega)
            rw [hML] at hjn
            have HTK := take_any (w.heap.size + 1) w.heap.size M (by omega) wq HPX.out
            rw [hz, hl] at HTK
            have HTK2 := hide HTK
            clear HTK hz hl hbest
            cases most
            · generalize hL'' : M.set j (2, (M.getD j (0, 0)).2) = L' at *
              have hL'' := hL''.symm
              have HLL := hide (show L'.length = 1 by rw [hL'', List.length_set]; exact hML)
              have HSN := hide (fun b => show (L'.getD b (0, 0)).2 = (M.getD b (0, 0)).2 by rw [hL'']; exact snd_set M j (by omega) b)
              have HS2 := hide (show (L'.getD j (0, 0)).1 = 2 by rw [hL'', getD_set _ _ _ _ (by omega), if_pos rfl])
              have HJ1 := hide (show ((M.getD j (0, 0)).1 == 1) = true by rw [hj1]; rfl)
              have HALL := hide (fun b (hb : b < 1) => hall b (by omega))
              clear hL'' hj1 hall
              go_wp2_with fail
              refine HTK2.out.mono ?_
              rintro e w5 ⟨rfl, hp5, ho5⟩
              have HM5 := hide (HMX.out.only ho5 (by have := HBM.out; omega))
              have HB5 := hide (ho5.below HBX.out (Nat.le_refl _) HBX.out.size)
              clear HMX HBX HPX ho5 hML
              have HPX := hide hp5
              have HMX := HM5
              have HBX := HB5
              clear HM5 HB5 hp5
              go_wp2_with fail
              go_loopw [99] (fun i W => ∃ k : Nat, k ≤ 1 ∧ i = .int .i64 k ∧ PoolAt W (w.heap.size + 1) w.heap.size L' ∧ MapIs W Try.prog 3 bm 1 cm (freeF M 1) ∧ Below w.heap.size w W) (fun i _ => 1 - (intOf i).toNat)
              case atStart => exact ⟨0, by omega, rfl, HPX.out, HMX.out, HBX.out⟩
              case round =>
                clear HPX HMX HBX
                obtain ⟨b, hb, rfl, hp, hm, hB⟩ := hrel
                have HPX := hide hp
                have HMX := hide hm
                have HBX := hide hB
                by_cases hlb : b < 1
                · have hlk := hm.look Keyed_int Try.underlying54 (zero_bool wr) (key_int (a := (b : Int)) (by omega) (by omega)) trivial
                  rw [freeF_at M 1 b hlb] at hlk
                  have HW1 := hide (fun W hW => wear_at2 (w.heap.size + 1) w.heap.size L' b (by rw [HLL.out]; exact hlb) W hW)
                  have HW2 := hide (fun W hW => wear_at2 (w.heap.size + 1) w.heap.size L' j (by rw [HLL.out]; exact hjn) W hW)
                  have HNO := hide (HALL.out b hlb)
                  rw [HSN.out b] at HW1
                  rw [HSN.out j] at HW2
                  generalize (M.getD b (0, 0)).2 = y at *
                  generalize (M.getD j (0, 0)).2 = z at *
                  generalize (M.getD b (0, 0)).1 = x at *
                  clear hp hm hB
                  by_cases hx : x = 1
                  · have hx1 : (x == 1) = true := by rw [hx]; rfl
                    have hno := HNO.out hx
                    unfold aheadB at hno
                    rw [if_neg (by simp)] at hno
                    have hno2 : ¬ y < z := by simpa using hno
                    clear hno hx HNO
                    go_wp2_with fail
                    refine (HW1.out _ HPX.out).mono ?_
                    rintro e w7 ⟨rfl, rfl⟩
                    go_wp2_with fail
                    refine (HW2.out _ HPX.out).mono ?_
                    rintro e w8 ⟨rfl, rfl⟩
                    go_wp2_with fail
                    go_roundw
                    case rel => exact ⟨b + 1, by omega, by go_num, HPX.out, HMX.out, HBX.out⟩
                    case measure => simp [intOf] <;> omega
                  · have hx1 : (x == 1) = false := beq_eq_false_iff_ne.2 hx
                    clear hx HNO
                    go_wp2_with fail
                    go_roundw
                    case rel => exact ⟨b + 1, by omega, by go_num, HPX.out, HMX.out, HBX.out⟩
                    case measure => simp [intOf] <;> omega
                · obtain rfl : 1 = b := by omega
                  have hlk := hm.look Keyed_int Try.underlying54 (zero_bool wr) (key_int (a := (j : Int)) (by omega) (by omega)) trivial
                  rw [freeF_at M 1 j hjn, HJ1.out] at hlk
                  have HS1 := hide (fun W hW => state_at2 (w.heap.size + 1) w.heap.size L' j (by rw [HLL.out]; exact hjn) W hW)
                  rw [HS2.out] at HS1
                  clear hp hm hB
                  go_wp2_with fail
                  refine (HS1.out _ HPX.out).mono ?_
                  rintro e w7 ⟨rfl, rfl⟩
                  go_wp2
                  go_ret
                  exact ⟨rfl, HBX.out⟩
            · have hself := lst_set_self M j (by omega) 0 hj1
              obtain ⟨j2, hj2n, hz2, hl2, hj12, hall2⟩ := take_some true M (by
                have hb := bestK_bd true M M.length
                obtain ⟨-, hno⟩ := bestK_some true M M.length
                exact hno ⟨j, by omega, hj1⟩)
              rw [hML] at hj2n
              have HSELF := hide hself
              have HZ2 := hide hz2
              have HL2 := hide hl2
              have HHJ := hide hj12
              have HHA := hide hall2
              generalize hLQ : M.set j (2, (M.getD j (0, 0)).2) = LQ at *
              clear hself hz2 hl2 hj12 hall2 hj1 hall hLQ
              go_wp2_with fail
              refine HTK2.out.mono ?_
              rintro e w5 ⟨rfl, hp5, ho5⟩
              have HP5 := hide hp5
              have HM5 := hide (HMX.out.only ho5 (by have := HBM.out; omega))
              have HB5 := hide (ho5.below HBX.out (Nat.le_refl _) HBX.out.size)
              clear HMX HBX HPX ho5 hp5 HTK2
              go_wp2_with fail
              refine (set_any (w.heap.size + 1) w.heap.size LQ j 1 _ HP5.out).mono ?_
              rintro e w6 ⟨rfl, hp6, ho6⟩
              rw [HSELF.out.1] at hp6
              have HP6 := hide hp6
              have HM6 := hide (HM5.out.only ho6 (by have := HBM.out; omega))
              have HB6 := hide (ho6.below HB5.out (Nat.le_refl _) HB5.out.size)
              have htk := most_any (w.heap.size + 1) w.heap.size M (by omega) w6 hp6
              rw [HZ2.out, HL2.out] at htk
              have HTK3 := hide htk
              generalize hL'' : M.set j2 (2, (M.getD j2 (0, 0)).2) = L' at *
              have hL'' := hL''.symm
              have hj1 := HHJ.out
              have hall := HHA.out
              clear hp6 ho6 HM5 HB5 HP5 htk HZ2 HL2 hjn HHJ HHA
              have hjn := hj2n
              generalize j2 = j at *
              have HLL := hide (show L'.length = 1 by rw [hL'', List.length_set]; exact hML)
              have HSN := hide (fun b => show (L'.getD b (0, 0)).2 = (M.getD b (0, 0)).2 by rw [hL'']; exact snd_set M j (by omega) b)
              have HS2 := hide (show (L'.getD j (0, 0)).1 = 2 by rw [hL'', getD_set _ _ _ _ (by omega), if_pos rfl])
              have HJ1 := hide (show ((M.getD j (0, 0)).1 == 1) = true by rw [hj1]; rfl)
              have HALL := hide (fun b (hb : b < 1) => hall b (by omega))
              clear hL'' hj1 hall
              go_wp2_with fail
              refine HTK3.out.mono ?_
              rintro e w7 ⟨rfl, hp7, ho7⟩
              have HMX := hide (HM6.out.only ho7 (by have := HBM.out; omega))
              have HBX := hide (ho7.below HB6.out (Nat.le_refl _) HB6.out.size)
              have HPX := hide hp7
              clear hp7 ho7 HM6 HB6 HP6 HTK3 hML hj2n
              go_wp2_with fail
              go_loopw [99] (fun i W => ∃ k : Nat, k ≤ 1 ∧ i = .int .i64 k ∧ PoolAt W (w.heap.size + 1) w.heap.size L' ∧ MapIs W Try.prog 3 bm 1 cm (freeF M 1) ∧ Below w.heap.size w W) (fun i _ => 1 - (intOf i).toNat)
              case atStart => exact ⟨0, by omega, rfl, HPX.out, HMX.out, HBX.out⟩
              case round =>
                clear HPX HMX HBX
                obtain ⟨b, hb, rfl, hp, hm, hB⟩ := hrel
                have HPX := hide hp
                have HMX := hide hm
                have HBX := hide hB
                by_cases hlb : b < 1
                · have hlk := hm.look Keyed_int Try.underlying54 (zero_bool wr) (key_int (a := (b : Int)) (by omega) (by omega)) trivial
                  rw [freeF_at M 1 b hlb] at hlk
                  have HW1 := hide (fun W hW => wear_at2 (w.heap.size + 1) w.heap.size L' b (by rw [HLL.out]; exact hlb) W hW)
                  have HW2 := hide (fun W hW => wear_at2 (w.heap.size + 1) w.heap.size L' j (by rw [HLL.out]; exact hjn) W hW)
                  have HNO := hide (HALL.out b hlb)
                  rw [HSN.out b] at HW1
                  rw [HSN.out j] at HW2
                  generalize (M.getD b (0, 0)).2 = y at *
                  generalize (M.getD j (0, 0)).2 = z at *
                  generalize (M.getD b (0, 0)).1 = x at *
                  clear hp hm hB
                  by_cases hx : x = 1
                  · have hx1 : (x == 1) = true := by rw [hx]; rfl
                    have hno := HNO.out hx
                    unfold aheadB at hno
                    rw [if_pos rfl] at hno
                    have hno2 : ¬ z < y := by simpa using hno
                    clear hno hx HNO
                    go_wp2_with fail
                    refine (HW1.out _ HPX.out).mono ?_
                    rintro e w7 ⟨rfl, rfl⟩
                    go_wp2_with fail
                    refine (HW2.out _ HPX.out).mono ?_
                    rintro e w8 ⟨rfl, rfl⟩
                    go_wp2_with fail
                    go_roundw
                    case rel => exact ⟨b + 1, by omega, by go_num, HPX.out, HMX.out, HBX.out⟩
                    case measure => simp [intOf] <;> omega
                  · have hx1 : (x == 1) = false := beq_eq_false_iff_ne.2 hx
                    clear hx HNO
                    go_wp2_with fail
                    go_roundw
                    case rel => exact ⟨b + 1, by omega, by go_num, HPX.out, HMX.out, HBX.out⟩
                    case measure => simp [intOf] <;> omega
                · obtain rfl : 1 = b := by omega
                  have hlk := hm.look Keyed_int Try.underlying54 (zero_bool wr) (key_int (a := (j : Int)) (by omega) (by omega)) trivial
                  rw [freeF_at M 1 j hjn, HJ1.out] at hlk
                  have HS1 := hide (fun W hW => state_at2 (w.heap.size + 1) w.heap.size L' j (by rw [HLL.out]; exact hjn) W hW)
                  rw [HS2.out] at HS1
                  clear hp hm hB
                  go_wp2_with fail
                  refine (HS1.out _ HPX.out).mono ?_
                  rintro e w7 ⟨rfl, rfl⟩
                  go_wp2
                  go_ret
                  exact ⟨rfl, HBX.out⟩
set_option maxRecDepth 100000 in
set_option maxHeartbeats 2000000 in
theorem poolLeast_one (zs : List Int) (hzs : ∀ z ∈ zs, (Lit.int .u8 z).wf = true) (a : Option Addr) (cap : Nat) (hcap : zs.length ≤ cap) (hmaxl : zs.length ≤ 9223372036854775807) (us : Int) (u0 : 0 ≤ us) (u1 : us ≤ 4294967295) (most : Bool) (w : World)
    (hat : ∀ i, i < zs.length → ∃ b off, a = some ⟨b, off, none⟩ ∧ b < w.heap.size ∧ w.cell? ⟨b, off + i, none⟩ = some (.int .u8 (zs.getD i 0))) (hbig : zs.length = 1) :
    Calls Try.prog 6 #[.slice a zs.length cap, .int .u32 us, .bool most] w fun e w' => e = .returned (.bool true) ∧ Below w.heap.size w w' := by
  have HZS := hide hzs
  have HAT := hide hat
  clear hzs hat
  have hmm := @run_makeMap Try.prog
  go_enter Try.func6, Try.ntmps6
  go_wp2_with fail
  have n1 : 1 ≤ 1 := Nat.le_refl _
  refine (new_yes 1 n1 (by omega) _).mono ?_
  rintro e w1 ⟨rfl, hp, hb⟩
  have HP := hide hp
  have HB := hide hb
  clear hp hb
  go_wp2_with fail
  refine (wakes11 _).mono ?_
  rintro e w3 ⟨rfl, hb3⟩
  have HP3 := hide (HP.out.below hb3)
  have HB3 := hide (below_trans HB.out hb3)
  clear hb3 HP HB
  go_wp2_with fail
  go_loopw [45] (fun i W => ∃ (k : Nat) (M : List (Int × Int)), k ≤ 1 ∧ i = .int .i64 k ∧ M.length = 1 ∧ PoolAt W (w.heap.size + 1) w.heap.size M ∧ Below w.heap.size w W) (fun i _ => 1 - (intOf i).toNat)
  case atStart => exact ⟨0, List.replicate 1 (1, 0), by omega, rfl, by simp, HP3.out, HB3.out⟩
  case round =>
    clear HP3 HB3
    obtain ⟨k, M, hk, rfl, hM, hp, hB⟩ := hrel
    have HPX := hide hp
    have HBX := hide hB
    have HML := hide hM
    by_cases hlt : k < 1
    · obtain ⟨b, off, rfl, hb, c0⟩ := HAT.out k (by omega)
      have d0 : wr.cell? ⟨b, off + k, none⟩ = some (.int .u8 (zs.getD k 0)) := (hB.cell (p := ⟨b, off + k, none⟩) hb).trans c0
      obtain ⟨x0, x1⟩ := wf_u8 (HZS.out (zs.getD k 0) (by simp only [List.getD, List.getElem?_eq_getElem (show k < zs.length by omega), Option.getD_some]; exact List.getElem_mem _))
      generalize zs.getD k 0 = x at *
      have hbw : b < wr.heap.size := Nat.lt_of_lt_of_le hb hB.size
      have HW1 := hide (fun W hW => worn_any (w.heap.size + 1) w.heap.size M k x W hW)
      have hl1 := (show (wornL M k x).length = 1 by unfold wornL; split <;> simp [hM])
      have HL1 := hide hl1
      generalize wornL M k x = M1 at *
      have HS1 := hide (fun W hW => set_any (w.heap.size + 1) w.heap.size M1 k 2 W hW)
      have HL2 := hide (show (setL M1 k 2).length = 1 by unfold setL; split <;> simp [hl1])
      generalize setL M1 k 2 = M2 at *
      clear hp hB hM hb c0 hl1
      go_wp2_with fail
      refine (HW1.out _ HPX.out).mono ?_
      rintro e w5 ⟨rfl, hp5, ho5⟩
      have HP5 := hide hp5
      have HB5 := hide (ho5.below HBX.out (Nat.le_refl _) HBX.out.size)
      clear hp5 ho5 d0
      go_wp2_with fail
      · refine (HS1.out _ HP5.out).mono ?_
        rintro e w6 ⟨rfl, hp6, ho6⟩
        have HP6 := hide hp6
        have HB6 := hide (ho6.below HB5.out (Nat.le_refl _) HB5.out.size)
        clear hp6 ho6
        go_wp2_with fail
        go_roundw
        case rel => exact ⟨k + 1, M2, by omega, by go_num, HL2.out, HP6.out, HB6.out⟩
        case measure => simp [intOf] <;> omega
      · go_roundw
        case rel => exact ⟨k + 1, M1, by omega, by go_num, HL1.out, HP5.out, HB5.out⟩
        case measure => simp [intOf] <;> omega
    · obtain rfl : k = 1 := by omega
      rw [show ((1 : Nat) : Int) = 1 from rfl]
      clear hp hB hM
      have hbm := heap_lt HPX.out.head
      have HM0 := hide (MapIs.made wr Try.prog 3)
      have HPA := hide (show PoolAt (wr.alloc (.map #[] 0)) (w.heap.size + 1) w.heap.size M from HPX.out.below ((Below.refl _ _).alloc (Nat.le_refl _) _))
      have HBA := hide (HBX.out.alloc HBX.out.size (.map #[] 0))
      generalize hbmm : wr.heap.size = bm at *
      have HBM := hide hbm
      clear HPX HBX hbm
      go_wp2_with fail
      go_loopw [66] (fun i W => ∃ (k : Nat) (cm : Nat), k ≤ 1 ∧ i = .int .i64 k ∧ PoolAt W (w.heap.size + 1) w.heap.size M ∧ MapIs W Try.prog 3 bm k cm (freeF M k) ∧ Below w.heap.size w W) (fun i _ => 1 - (intOf i).toNat)
      case atStart => exact ⟨0, 0, by omega, rfl, HPA.out, by rw [freeF_none M 0 rfl]; exact HM0.out, HBA.out⟩
      case round =>
        clear HPA HM0 HBA
        obtain ⟨j, cm, hj, rfl, hp, hm, hB⟩ := hrel
        have HPX := hide hp
        have HBX := hide hB
        have HMX := hide hm
        by_cases hlj : j < 1
        · obtain rfl : j = 0 := by omega
          have HS1 := hide (state_at2 (w.heap.size + 1) w.heap.size M 0 (by rw [HML.out]; exact hlj) wr hp)
          have HFN := hide (freeF_next M 0)
          generalize (M.getD 0 (0, 0)).1 = x at *
          clear hp hm hB
          go_wp2_with fail
          refine HS1.out.mono ?_
          rintro e w5 ⟨rfl, rfl⟩
          go_wp2_with (at_mapUpdate; refine wpList_mapStore _ rfl _ _ _ 54 rfl 3 4 Keyed_int Try.underlying54 bm 0 cm (freeF M 0) rfl HMX.out (by unfold maxLen; omega) (.int .i64 (0 : Int)) (.bool (x == 1)) (.int .i64 (0 : Int)) rfl rfl (key_int (by omega) (by omega)) trivial ?_; intro w6 hm6 hg6; have HM6 := hide hm6; have HO6 := hide (only_of_grown hg6); clear hm6 hg6)
          have HP7 := hide (HPX.out.only1 HO6.out (by have := HBM.out; omega) (by have := HBM.out; omega))
          have HB7 := hide (HO6.out.below HBX.out (by have := HBM.out; omega) HBX.out.size)
          go_roundw
          case rel => exact ⟨0 + 1, _, by omega, by go_num, HP7.out, by have := HM6.out; have h2 : (fun l : Lit => if l.sameKey (.int .i64 0) = true then some (Value.bool (x == 1)) else freeF M 0 l) = freeF M 1 := HFN.out; rw [h2] at this; exact this, HB7.out⟩
          case measure => simp [intOf] <;> omega
        · obtain rfl : 1 = j := by omega
          clear hp hm hB
          obtain ⟨wq, rfl⟩ : ∃ wq : World, wq = wr := ⟨_, rfl⟩
          have hML := HML.out
          by_cases hbest : bestK false M M.length < 0
          · obtain ⟨hz, hl⟩ := take_none false M hbest
            obtain ⟨-, hnone⟩ := bestK_some false M M.length
            have HNONE := hide (fun b (hb : b < 1) (h1 : (M.getD b (0, 0)).1 = 1) => (absurd (hnone ⟨b, by omega, h1⟩) (by omega) : False))
            have HTK := take_any (w.heap.size + 1) w.heap.size M (by omega) wq HPX.out
            rw [hz, hl] at HTK
            have HTK2 := hide HTK
            clear HTK hz hl hnone hbest hML
            cases most
            all_goals
              go_wp2_with fail
              refine HTK2.out.mono ?_
              rintro e w5 ⟨rfl, hp5, ho5⟩
              have HM5 := hide (HMX.out.only ho5 (by have := HBM.out; omega))
              have HB5 := hide (ho5.below HBX.out (Nat.le_refl _) HBX.out.size)
              clear HMX HBX HPX hp5 ho5
              have HPX := hide (show True from trivial)
              have HMX := HM5
              have HBX := HB5
              clear HM5 HB5
              go_wp2_with fail
              go_loopw [99] (fun i W => ∃ k : Nat, k ≤ 1 ∧ i = .int .i64 k ∧ MapIs W Try.prog 3 bm 1 cm (freeF M 1) ∧ Below w.heap.size w W) (fun i _ => 1 - (intOf i).toNat)
              case atStart => exact ⟨0, by omega, rfl, HMX.out, HBX.out⟩
              case round =>
                clear HPX HMX HBX
                obtain ⟨b, hb, rfl, hm, hB⟩ := hrel
                have HMX := hide hm
                have HBX := hide hB
                by_cases hlb : b < 1
                · have hlk := hm.look Keyed_int Try.underlying54 (zero_bool wr) (key_int (a := (b : Int)) (by omega) (by omega)) trivial
                  rw [freeF_at M 1 b hlb] at hlk
                  have hx1 : ((M.getD b (0, 0)).1 == 1) = false := beq_eq_false_iff_ne.2 (HNONE.out b hlb)
                  rw [hx1] at hlk
                  clear hm hB hx1
                  go_wp2_with fail
                  go_roundw
                  case rel => exact ⟨b + 1, by omega, by go_num, HMX.out, HBX.out⟩
                  case measure => simp [intOf] <;> omega
                · obtain rfl : 1 = b := by omega
                  clear hm hB
                  go_wp2
                  go_ret
                  exact ⟨rfl, HBX.out⟩
          · obtain ⟨j, hjn, hz, hl, hj1, hall⟩ := take_some false M (by have := bestK_bd false M M.length; omega)
            rw [hML] at hjn
            have HTK := take_any (w.heap.size + 1) w.heap.size M (by omega) wq HPX.out
            rw [hz, hl] at HTK
            have HTK2 := hide HTK
            clear HTK hz hl hbest
            cases most
            · generalize hL'' : M.set j (2, (M.getD j (0, 0)).2) = L' at *
              have hL'' := hL''.symm
              have HLL := hide (show L'.length = 1 by rw [hL'', List.length_set]; exact hML)
              have HSN := hide (fun b => show (L'.getD b (0, 0)).2 = (M.getD b (0, 0)).2 by rw [hL'']; exact snd_set M j (by omega) b)
              have HS2 := hide (show (L'.getD j (0, 0)).1 = 2 by rw [hL'', getD_set _ _ _ _ (by omega), if_pos rfl])
              have HJ1 := hide (show ((M.getD j (0, 0)).1 == 1) = true by rw [hj1]; rfl)
              have HALL := hide (fun b (hb : b < 1) => hall b (by omega))
              clear hL'' hj1 hall
              go_wp2_with fail
              refine HTK2.out.mono ?_
              rintro e w5 ⟨rfl, hp5, ho5⟩
              have HM5 := hide (HMX.out.only ho5 (by have := HBM.out; omega))
              have HB5 := hide (ho5.below HBX.out (Nat.le_refl _) HBX.out.size)
              clear HMX HBX HPX ho5 hML
              have HPX := hide hp5
              have HMX := HM5
              have HBX := HB5
              clear HM5 HB5 hp5
              go_wp2_with fail
              go_loopw [99] (fun i W => ∃ k : Nat, k ≤ 1 ∧ i = .int .i64 k ∧ PoolAt W (w.heap.size + 1) w.heap.size L' ∧ MapIs W Try.prog 3 bm 1 cm (freeF M 1) ∧ Below w.heap.size w W) (fun i _ => 1 - (intOf i).toNat)
              case atStart => exact ⟨0, by omega, rfl, HPX.out, HMX.out, HBX.out⟩
              case round =>
                clear HPX HMX HBX
                obtain ⟨b, hb, rfl, hp, hm, hB⟩ := hrel
                have HPX := hide hp
                have HMX := hide hm
                have HBX := hide hB
                by_cases hlb : b < 1
                · have hlk := hm.look Keyed_int Try.underlying54 (zero_bool wr) (key_int (a := (b : Int)) (by omega) (by omega)) trivial
                  rw [freeF_at M 1 b hlb] at hlk
                  have HW1 := hide (fun W hW => wear_at2 (w.heap.size + 1) w.heap.size L' b (by rw [HLL.out]; exact hlb) W hW)
                  have HW2 := hide (fun W hW => wear_at2 (w.heap.size + 1) w.heap.size L' j (by rw [HLL.out]; exact hjn) W hW)
                  have HNO := hide (HALL.out b hlb)
                  rw [HSN.out b] at HW1
                  rw [HSN.out j] at HW2
                  generalize (M.getD b (0, 0)).2 = y at *
                  generalize (M.getD j (0, 0)).2 = z at *
                  generalize (M.getD b (0, 0)).1 = x at *
                  clear hp hm hB
                  by_cases hx : x = 1
                  · have hx1 : (x == 1) = true := by rw [hx]; rfl
                    have hno := HNO.out hx
                    unfold aheadB at hno
                    rw [if_neg (by simp)] at hno
                    have hno2 : ¬ y < z := by simpa using hno
                    clear hno hx HNO
                    go_wp2_with fail
                    refine (HW1.out _ HPX.out).mono ?_
                    rintro e w7 ⟨rfl, rfl⟩
                    go_wp2_with fail
                    refine (HW2.out _ HPX.out).mono ?_
                    rintro e w8 ⟨rfl, rfl⟩
                    go_wp2_with fail
                    go_roundw
                    case rel => exact ⟨b + 1, by omega, by go_num, HPX.out, HMX.out, HBX.out⟩
                    case measure => simp [intOf] <;> omega
                  · have hx1 : (x == 1) = false := beq_eq_false_iff_ne.2 hx
                    clear hx HNO
                    go_wp2_with fail
                    go_roundw
                    case rel => exact ⟨b + 1, by omega, by go_num, HPX.out, HMX.out, HBX.out⟩
                    case measure => simp [intOf] <;> omega
                · obtain rfl : 1 = b := by omega
                  have hlk := hm.look Keyed_int Try.underlying54 (zero_bool wr) (key_int (a := (j : Int)) (by omega) (by omega)) trivial
                  rw [freeF_at M 1 j hjn, HJ1.out] at hlk
                  have HS1 := hide (fun W hW => state_at2 (w.heap.size + 1) w.heap.size L' j (by rw [HLL.out]; exact hjn) W hW)
                  rw [HS2.out] at HS1
                  clear hp hm hB
                  go_wp2_with fail
                  refine (HS1.out _ HPX.out).mono ?_
                  rintro e w7 ⟨rfl, rfl⟩
                  go_wp2
                  go_ret
                  exact ⟨rfl, HBX.out⟩
            · have hself := lst_set_self M j (by omega) 0 hj1
              obtain ⟨j2, hj2n, hz2, hl2, hj12, hall2⟩ := take_some true M (by
                have hb := bestK_bd true M M.length
                obtain ⟨-, hno⟩ := bestK_some true M M.length
                exact hno ⟨j, by omega, hj1⟩)
              rw [hML] at hj2n
              have HSELF := hide hself
              have HZ2 := hide hz2
              have HL2 := hide hl2
              have HHJ := hide hj12
              have HHA := hide hall2
              generalize hLQ : M.set j (2, (M.getD j (0, 0)).2) = LQ at *
              clear hself hz2 hl2 hj12 hall2 hj1 hall hLQ
              go_wp2_with fail
              refine HTK2.out.mono ?_
              rintro e w5 ⟨rfl, hp5, ho5⟩
              have HP5 := hide hp5
              have HM5 := hide (HMX.out.only ho5 (by have := HBM.out; omega))
              have HB5 := hide (ho5.below HBX.out (Nat.le_refl _) HBX.out.size)
              clear HMX HBX HPX ho5 hp5 HTK2
              go_wp2_with fail
              refine (set_any (w.heap.size + 1) w.heap.size LQ j 1 _ HP5.out).mono ?_
              rintro e w6 ⟨rfl, hp6, ho6⟩
              rw [HSELF.out.1] at hp6
              have HP6 := hide hp6
              have HM6 := hide (HM5.out.only ho6 (by have := HBM.out; omega))
              have HB6 := hide (ho6.below HB5.out (Nat.le_refl _) HB5.out.size)
              have htk := most_any (w.heap.size + 1) w.heap.size M (by omega) w6 hp6
              rw [HZ2.out, HL2.out] at htk
              have HTK3 := hide htk
              generalize hL'' : M.set j2 (2, (M.getD j2 (0, 0)).2) = L' at *
              have hL'' := hL''.symm
              have hj1 := HHJ.out
              have hall := HHA.out
              clear hp6 ho6 HM5 HB5 HP5 htk HZ2 HL2 hjn HHJ HHA
              have hjn := hj2n
              generalize j2 = j at *
              have HLL := hide (show L'.length = 1 by rw [hL'', List.length_set]; exact hML)
              have HSN := hide (fun b => show (L'.getD b (0, 0)).2 = (M.getD b (0, 0)).2 by rw [hL'']; exact snd_set M j (by omega) b)
              have HS2 := hide (show (L'.getD j (0, 0)).1 = 2 by rw [hL'', getD_set _ _ _ _ (by omega), if_pos rfl])
              have HJ1 := hide (show ((M.getD j (0, 0)).1 == 1) = true by rw [hj1]; rfl)
              have HALL := hide (fun b (hb : b < 1) => hall b (by omega))
              clear hL'' hj1 hall
              go_wp2_with fail
              refine HTK3.out.mono ?_
              rintro e w7 ⟨rfl, hp7, ho7⟩
              have HMX := hide (HM6.out.only ho7 (by have := HBM.out; omega))
              have HBX := hide (ho7.below HB6.out (Nat.le_refl _) HB6.out.size)
              have HPX := hide hp7
              clear hp7 ho7 HM6 HB6 HP6 HTK3 hML hj2n
              go_wp2_with fail
              go_loopw [99] (fun i W => ∃ k : Nat, k ≤ 1 ∧ i = .int .i64 k ∧ PoolAt W (w.heap.size + 1) w.heap.size L' ∧ MapIs W Try.prog 3 bm 1 cm (freeF M 1) ∧ Below w.heap.size w W) (fun i _ => 1 - (intOf i).toNat)
              case atStart => exact ⟨0, by omega, rfl, HPX.out, HMX.out, HBX.out⟩
              case round =>
                clear HPX HMX HBX
                obtain ⟨b, hb, rfl, hp, hm, hB⟩ := hrel
                have HPX := hide hp
                have HMX := hide hm
                have HBX := hide hB
                by_cases hlb : b < 1
                · have hlk := hm.look Keyed_int Try.underlying54 (zero_bool wr) (key_int (a := (b : Int)) (by omega) (by omega)) trivial
                  rw [freeF_at M 1 b hlb] at hlk
                  have HW1 := hide (fun W hW => wear_at2 (w.heap.size + 1) w.heap.size L' b (by rw [HLL.out]; exact hlb) W hW)
                  have HW2 := hide (fun W hW => wear_at2 (w.heap.size + 1) w.heap.size L' j (by rw [HLL.out]; exact hjn) W hW)
                  have HNO := hide (HALL.out b hlb)
                  rw [HSN.out b] at HW1
                  rw [HSN.out j] at HW2
                  generalize (M.getD b (0, 0)).2 = y at *
                  generalize (M.getD j (0, 0)).2 = z at *
                  generalize (M.getD b (0, 0)).1 = x at *
                  clear hp hm hB
                  by_cases hx : x = 1
                  · have hx1 : (x == 1) = true := by rw [hx]; rfl
                    have hno := HNO.out hx
                    unfold aheadB at hno
                    rw [if_pos rfl] at hno
                    have hno2 : ¬ z < y := by simpa using hno
                    clear hno hx HNO
                    go_wp2_with fail
                    refine (HW1.out _ HPX.out).mono ?_
                    rintro e w7 ⟨rfl, rfl⟩
                    go_wp2_with fail
                    refine (HW2.out _ HPX.out).mono ?_
                    rintro e w8 ⟨rfl, rfl⟩
                    go_wp2_with fail
                    go_roundw
                    case rel => exact ⟨b + 1, by omega, by go_num, HPX.out, HMX.out, HBX.out⟩
                    case measure => simp [intOf] <;> omega
                  · have hx1 : (x == 1) = false := beq_eq_false_iff_ne.2 hx
                    clear hx HNO
                    go_wp2_with fail
                    go_roundw
                    case rel => exact ⟨b + 1, by omega, by go_num, HPX.out, HMX.out, HBX.out⟩
                    case measure => simp [intOf] <;> omega
                · obtain rfl : 1 = b := by omega
                  have hlk := hm.look Keyed_int Try.underlying54 (zero_bool wr) (key_int (a := (j : Int)) (by omega) (by omega)) trivial
                  rw [freeF_at M 1 j hjn, HJ1.out] at hlk
                  have HS1 := hide (fun W hW => state_at2 (w.heap.size + 1) w.heap.size L' j (by rw [HLL.out]; exact hjn) W hW)
                  rw [HS2.out] at HS1
                  clear hp hm hB
                  go_wp2_with fail
                  refine (HS1.out _ HPX.out).mono ?_
                  rintro e w7 ⟨rfl, rfl⟩
                  go_wp2
                  go_ret
                  exact ⟨rfl, HBX.out⟩
set_option maxRecDepth 100000 in
set_option maxHeartbeats 4000000 in
theorem poolLeast_few (zs : List Int) (hzs : ∀ z ∈ zs, (Lit.int .u8 z).wf = true) (a : Option Addr) (cap : Nat) (hcap : zs.length ≤ cap) (hmaxl : zs.length ≤ 9223372036854775807) (us : Int) (u0 : 0 ≤ us) (u1 : us ≤ 4294967295) (most : Bool) (w : World)
    (hat : ∀ i, i < zs.length → ∃ b off, a = some ⟨b, off, none⟩ ∧ b < w.heap.size ∧ w.cell? ⟨b, off + i, none⟩ = some (.int .u8 (zs.getD i 0))) (hbig : 1 < zs.length ∧ zs.length ≤ 30) :
    Calls Try.prog 6 #[.slice a zs.length cap, .int .u32 us, .bool most] w fun e w' => e = .returned (.bool true) ∧ Below w.heap.size w w' := by
  have HZS := hide hzs
  have HAT := hide hat
  clear hzs hat
  have hmm := @run_makeMap Try.prog
  generalize hn : zs.length = n at *
  have HZL := hide hn
  obtain ⟨n1, n30⟩ := hbig
  clear hn
  go_enter Try.func6, Try.ntmps6
  go_wp2_with fail
  refine (new_yes n (by omega) (by omega) _).mono ?_
  rintro e w1 ⟨rfl, hp, hb⟩
  have HP := hide hp
  have HB := hide hb
  clear hp hb
  go_wp2_with fail
  refine (wakes11 _).mono ?_
  rintro e w3 ⟨rfl, hb3⟩
  have HP3 := hide (HP.out.below hb3)
  have HB3 := hide (below_trans HB.out hb3)
  clear hb3 HP HB
  go_wp2_with fail
  go_loopw [45] (fun i W => ∃ (k : Nat) (M : List (Int × Int)), k ≤ n ∧ i = .int .i64 k ∧ M.length = n ∧ PoolAt W (w.heap.size + 1) w.heap.size M ∧ Below w.heap.size w W) (fun i _ => n - (intOf i).toNat)
  case atStart => exact ⟨0, List.replicate n (1, 0), by omega, rfl, by simp, HP3.out, HB3.out⟩
  case round =>
    clear HP3 HB3
    obtain ⟨k, M, hk, rfl, hM, hp, hB⟩ := hrel
    have HPX := hide hp
    have HBX := hide hB
    have HML := hide hM
    by_cases hlt : k < n
    · obtain ⟨b, off, rfl, hb, c0⟩ := HAT.out k (by omega)
      have d0 : wr.cell? ⟨b, off + k, none⟩ = some (.int .u8 (zs.getD k 0)) := (hB.cell (p := ⟨b, off + k, none⟩) hb).trans c0
      obtain ⟨x0, x1⟩ := wf_u8 (HZS.out (zs.getD k 0) (by simp only [List.getD, List.getElem?_eq_getElem (show k < zs.length by rw [HZL.out]; omega), Option.getD_some]; exact List.getElem_mem _))
      generalize zs.getD k 0 = x at *
      have hbw : b < wr.heap.size := Nat.lt_of_lt_of_le hb hB.size
      have HW1 := hide (fun W hW => worn_any (w.heap.size + 1) w.heap.size M k x W hW)
      have hl1 := (show (wornL M k x).length = n by unfold wornL; split <;> simp [hM])
      have HL1 := hide hl1
      generalize wornL M k x = M1 at *
      have HS1 := hide (fun W hW => set_any (w.heap.size + 1) w.heap.size M1 k 2 W hW)
      have HL2 := hide (show (setL M1 k 2).length = n by unfold setL; split <;> simp [hl1])
      generalize setL M1 k 2 = M2 at *
      clear hp hB hM hb c0 hl1
      go_wp2_with fail
      refine (HW1.out _ HPX.out).mono ?_
      rintro e w5 ⟨rfl, hp5, ho5⟩
      have HP5 := hide hp5
      have HB5 := hide (ho5.below HBX.out (Nat.le_refl _) HBX.out.size)
      clear hp5 ho5 d0
      go_wp2_with fail
      · refine (HS1.out _ HP5.out).mono ?_
        rintro e w6 ⟨rfl, hp6, ho6⟩
        have HP6 := hide hp6
        have HB6 := hide (ho6.below HB5.out (Nat.le_refl _) HB5.out.size)
        clear hp6 ho6
        go_wp2_with fail
        go_roundw
        case rel => exact ⟨k + 1, M2, by omega, by go_num, HL2.out, HP6.out, HB6.out⟩
        case measure => simp [intOf]; omega
      · go_roundw
        case rel => exact ⟨k + 1, M1, by omega, by go_num, HL1.out, HP5.out, HB5.out⟩
        case measure => simp [intOf]; omega
    · obtain rfl : n = k := by omega
      clear hp hB hM
      have hbm := heap_lt HPX.out.head
      have HM0 := hide (MapIs.made wr Try.prog 3)
      have HPA := hide (show PoolAt (wr.alloc (.map #[] 0)) (w.heap.size + 1) w.heap.size M from HPX.out.below ((Below.refl _ _).alloc (Nat.le_refl _) _))
      have HBA := hide (HBX.out.alloc HBX.out.size (.map #[] 0))
      generalize hbmm : wr.heap.size = bm at *
      have HBM := hide hbm
      clear HPX HBX hbm
      go_wp2_with fail
      go_loopw [66] (fun i W => ∃ (k : Nat) (cm : Nat), k ≤ n ∧ i = .int .i64 k ∧ PoolAt W (w.heap.size + 1) w.heap.size M ∧ MapIs W Try.prog 3 bm k cm (freeF M k) ∧ Below w.heap.size w W) (fun i _ => n - (intOf i).toNat)
      case atStart => exact ⟨0, 0, by omega, rfl, HPA.out, by rw [freeF_none M 0 rfl]; exact HM0.out, HBA.out⟩
      case round =>
        clear HPA HM0 HBA
        obtain ⟨j, cm, hj, rfl, hp, hm, hB⟩ := hrel
        have HPX := hide hp
        have HBX := hide hB
        have HMX := hide hm
        by_cases hlj : j < n
        · have HS1 := hide (state_at2 (w.heap.size + 1) w.heap.size M j (by rw [HML.out]; exact hlj) wr hp)
          have HFN := hide (freeF_next M j)
          generalize (M.getD j (0, 0)).1 = x at *
          clear hp hm hB
          go_wp2_with fail
          refine HS1.out.mono ?_
          rintro e w5 ⟨rfl, rfl⟩
          go_wp2_with (at_mapUpdate; refine wpList_mapStore _ rfl _ _ _ 54 rfl 3 4 Keyed_int Try.underlying54 bm j cm (freeF M j) rfl HMX.out (by unfold maxLen; omega) (.int .i64 (j : Int)) (.bool (x == 1)) (.int .i64 (j : Int)) rfl rfl (key_int (by omega) (by omega)) trivial ?_; intro w6 hm6 hg6; have HM6 := hide hm6; have HO6 := hide (only_of_grown hg6); clear hm6 hg6)
          have HP7 := hide (HPX.out.only1 HO6.out (by have := HBM.out; omega) (by have := HBM.out; omega))
          have HB7 := hide (HO6.out.below HBX.out (by have := HBM.out; omega) HBX.out.size)
          go_roundw
          case rel => exact ⟨j + 1, _, by omega, by go_num, HP7.out, by have := HM6.out; rw [HFN.out] at this; exact this, HB7.out⟩
          case measure => simp [intOf]; omega
        · obtain rfl : n = j := by omega
          clear hp hm hB
          obtain ⟨wq, rfl⟩ : ∃ wq : World, wq = wr := ⟨_, rfl⟩
          have hML := HML.out
          by_cases hbest : bestK false M M.length < 0
          · obtain ⟨hz, hl⟩ := take_none false M hbest
            obtain ⟨-, hnone⟩ := bestK_some false M M.length
            have HNONE := hide (fun b (hb : b < n) (h1 : (M.getD b (0, 0)).1 = 1) => (absurd (hnone ⟨b, by omega, h1⟩) (by omega) : False))
            have HTK := take_any (w.heap.size + 1) w.heap.size M (by omega) wq HPX.out
            rw [hz, hl] at HTK
            have HTK2 := hide HTK
            clear HTK hz hl hnone hbest hML
            cases most
            all_goals
              go_wp2_with fail
              refine HTK2.out.mono ?_
              rintro e w5 ⟨rfl, hp5, ho5⟩
              have HM5 := hide (HMX.out.only ho5 (by have := HBM.out; omega))
              have HB5 := hide (ho5.below HBX.out (Nat.le_refl _) HBX.out.size)
              clear HMX HBX HPX hp5 ho5
              have HPX := hide (show True from trivial)
              have HMX := HM5
              have HBX := HB5
              clear HM5 HB5
              go_wp2_with fail
              go_loopw [99] (fun i W => ∃ k : Nat, k ≤ n ∧ i = .int .i64 k ∧ MapIs W Try.prog 3 bm n cm (freeF M n) ∧ Below w.heap.size w W) (fun i _ => n - (intOf i).toNat)
              case atStart => exact ⟨0, by omega, rfl, HMX.out, HBX.out⟩
              case round =>
                clear HPX HMX HBX
                obtain ⟨b, hb, rfl, hm, hB⟩ := hrel
                have HMX := hide hm
                have HBX := hide hB
                by_cases hlb : b < n
                · have hlk := hm.look Keyed_int Try.underlying54 (zero_bool wr) (key_int (a := (b : Int)) (by omega) (by omega)) trivial
                  rw [freeF_at M n b hlb] at hlk
                  have hx1 : ((M.getD b (0, 0)).1 == 1) = false := beq_eq_false_iff_ne.2 (HNONE.out b hlb)
                  rw [hx1] at hlk
                  clear hm hB hx1
                  go_wp2_with fail
                  go_roundw
                  case rel => exact ⟨b + 1, by omega, by go_num, HMX.out, HBX.out⟩
                  case measure => simp [intOf]; omega
                · obtain rfl : n = b := by omega
                  clear hm hB
                  go_wp2
                  go_ret
                  exact ⟨rfl, HBX.out⟩
          · obtain ⟨j, hjn, hz, hl, hj1, hall⟩ := take_some false M (by have := bestK_bd false M M.length; omega)
            rw [hML] at hjn
            have HTK := take_any (w.heap.size + 1) w.heap.size M (by omega) wq HPX.out
            rw [hz, hl] at HTK
            have HTK2 := hide HTK
            clear HTK hz hl hbest
            cases most
            · generalize hL'' : M.set j (2, (M.getD j (0, 0)).2) = L' at *
              have hL'' := hL''.symm
              have HLL := hide (show L'.length = n by rw [hL'', List.length_set]; exact hML)
              have HSN := hide (fun b => show (L'.getD b (0, 0)).2 = (M.getD b (0, 0)).2 by rw [hL'']; exact snd_set M j (by omega) b)
              have HS2 := hide (show (L'.getD j (0, 0)).1 = 2 by rw [hL'', getD_set _ _ _ _ (by omega), if_pos rfl])
              have HJ1 := hide (show ((M.getD j (0, 0)).1 == 1) = true by rw [hj1]; rfl)
              have HALL := hide (fun b (hb : b < n) => hall b (by omega))
              clear hL'' hj1 hall
              go_wp2_with fail
              refine HTK2.out.mono ?_
              rintro e w5 ⟨rfl, hp5, ho5⟩
              have HM5 := hide (HMX.out.only ho5 (by have := HBM.out; omega))
              have HB5 := hide (ho5.below HBX.out (Nat.le_refl _) HBX.out.size)
              clear HMX HBX HPX ho5 hML
              have HPX := hide hp5
              have HMX := HM5
              have HBX := HB5
              clear HM5 HB5 hp5
              go_wp2_with fail
              go_loopw [99] (fun i W => ∃ k : Nat, k ≤ n ∧ i = .int .i64 k ∧ PoolAt W (w.heap.size + 1) w.heap.size L' ∧ MapIs W Try.prog 3 bm n cm (freeF M n) ∧ Below w.heap.size w W) (fun i _ => n - (intOf i).toNat)
              case atStart => exact ⟨0, by omega, rfl, HPX.out, HMX.out, HBX.out⟩
              case round =>
                clear HPX HMX HBX
                obtain ⟨b, hb, rfl, hp, hm, hB⟩ := hrel
                have HPX := hide hp
                have HMX := hide hm
                have HBX := hide hB
                by_cases hlb : b < n
                · have hlk := hm.look Keyed_int Try.underlying54 (zero_bool wr) (key_int (a := (b : Int)) (by omega) (by omega)) trivial
                  rw [freeF_at M n b hlb] at hlk
                  have HW1 := hide (fun W hW => wear_at2 (w.heap.size + 1) w.heap.size L' b (by rw [HLL.out]; exact hlb) W hW)
                  have HW2 := hide (fun W hW => wear_at2 (w.heap.size + 1) w.heap.size L' j (by rw [HLL.out]; exact hjn) W hW)
                  have HNO := hide (HALL.out b hlb)
                  rw [HSN.out b] at HW1
                  rw [HSN.out j] at HW2
                  generalize (M.getD b (0, 0)).2 = y at *
                  generalize (M.getD j (0, 0)).2 = z at *
                  generalize (M.getD b (0, 0)).1 = x at *
                  clear hp hm hB
                  by_cases hx : x = 1
                  · have hx1 : (x == 1) = true := by rw [hx]; rfl
                    have hno := HNO.out hx
                    unfold aheadB at hno
                    rw [if_neg (by simp)] at hno
                    have hno2 : ¬ y < z := by simpa using hno
                    clear hno hx HNO
                    go_wp2_with fail
                    refine (HW1.out _ HPX.out).mono ?_
                    rintro e w7 ⟨rfl, rfl⟩
                    go_wp2_with fail
                    refine (HW2.out _ HPX.out).mono ?_
                    rintro e w8 ⟨rfl, rfl⟩
                    go_wp2_with fail
                    go_roundw
                    case rel => exact ⟨b + 1, by omega, by go_num, HPX.out, HMX.out, HBX.out⟩
                    case measure => simp [intOf]; omega
                  · have hx1 : (x == 1) = false := beq_eq_false_iff_ne.2 hx
                    clear hx HNO
                    go_wp2_with fail
                    go_roundw
                    case rel => exact ⟨b + 1, by omega, by go_num, HPX.out, HMX.out, HBX.out⟩
                    case measure => simp [intOf]; omega
                · obtain rfl : n = b := by omega
                  have hlk := hm.look Keyed_int Try.underlying54 (zero_bool wr) (key_int (a := (j : Int)) (by omega) (by omega)) trivial
                  rw [freeF_at M n j hjn, HJ1.out] at hlk
                  have HS1 := hide (fun W hW => state_at2 (w.heap.size + 1) w.heap.size L' j (by rw [HLL.out]; exact hjn) W hW)
                  rw [HS2.out] at HS1
                  clear hp hm hB
                  go_wp2_with fail
                  refine (HS1.out _ HPX.out).mono ?_
                  rintro e w7 ⟨rfl, rfl⟩
                  go_wp2
                  go_ret
                  exact ⟨rfl, HBX.out⟩
            · have hself := lst_set_self M j (by omega) 0 hj1
              obtain ⟨j2, hj2n, hz2, hl2, hj12, hall2⟩ := take_some true M (by
                have hb := bestK_bd true M M.length
                obtain ⟨-, hno⟩ := bestK_some true M M.length
                exact hno ⟨j, by omega, hj1⟩)
              rw [hML] at hj2n
              have HSELF := hide hself
              have HZ2 := hide hz2
              have HL2 := hide hl2
              have HHJ := hide hj12
              have HHA := hide hall2
              generalize hLQ : M.set j (2, (M.getD j (0, 0)).2) = LQ at *
              clear hself hz2 hl2 hj12 hall2 hj1 hall hLQ
              go_wp2_with fail
              refine HTK2.out.mono ?_
              rintro e w5 ⟨rfl, hp5, ho5⟩
              have HP5 := hide hp5
              have HM5 := hide (HMX.out.only ho5 (by have := HBM.out; omega))
              have HB5 := hide (ho5.below HBX.out (Nat.le_refl _) HBX.out.size)
              clear HMX HBX HPX ho5 hp5 HTK2
              go_wp2_with fail
              refine (set_any (w.heap.size + 1) w.heap.size LQ j 1 _ HP5.out).mono ?_
              rintro e w6 ⟨rfl, hp6, ho6⟩
              rw [HSELF.out.1] at hp6
              have HP6 := hide hp6
              have HM6 := hide (HM5.out.only ho6 (by have := HBM.out; omega))
              have HB6 := hide (ho6.below HB5.out (Nat.le_refl _) HB5.out.size)
              have htk := most_any (w.heap.size + 1) w.heap.size M (by omega) w6 hp6
              rw [HZ2.out, HL2.out] at htk
              have HTK3 := hide htk
              generalize hL'' : M.set j2 (2, (M.getD j2 (0, 0)).2) = L' at *
              have hL'' := hL''.symm
              have hj1 := HHJ.out
              have hall := HHA.out
              clear hp6 ho6 HM5 HB5 HP5 htk HZ2 HL2 hjn HHJ HHA
              have hjn := hj2n
              generalize j2 = j at *
              have HLL := hide (show L'.length = n by rw [hL'', List.length_set]; exact hML)
              have HSN := hide (fun b => show (L'.getD b (0, 0)).2 = (M.getD b (0, 0)).2 by rw [hL'']; exact snd_set M j (by omega) b)
              have HS2 := hide (show (L'.getD j (0, 0)).1 = 2 by rw [hL'', getD_set _ _ _ _ (by omega), if_pos rfl])
              have HJ1 := hide (show ((M.getD j (0, 0)).1 == 1) = true by rw [hj1]; rfl)
              have HALL := hide (fun b (hb : b < n) => hall b (by omega))
              clear hL'' hj1 hall
              go_wp2_with fail
              refine HTK3.out.mono ?_
              rintro e w7 ⟨rfl, hp7, ho7⟩
              have HMX := hide (HM6.out.only ho7 (by have := HBM.out; omega))
              have HBX := hide (ho7.below HB6.out (Nat.le_refl _) HB6.out.size)
              have HPX := hide hp7
              clear hp7 ho7 HM6 HB6 HP6 HTK3 hML hj2n
              go_wp2_with fail
              go_loopw [99] (fun i W => ∃ k : Nat, k ≤ n ∧ i = .int .i64 k ∧ PoolAt W (w.heap.size + 1) w.heap.size L' ∧ MapIs W Try.prog 3 bm n cm (freeF M n) ∧ Below w.heap.size w W) (fun i _ => n - (intOf i).toNat)
              case atStart => exact ⟨0, by omega, rfl, HPX.out, HMX.out, HBX.out⟩
              case round =>
                clear HPX HMX HBX
                obtain ⟨b, hb, rfl, hp, hm, hB⟩ := hrel
                have HPX := hide hp
                have HMX := hide hm
                have HBX := hide hB
                by_cases hlb : b < n
                · have hlk := hm.look Keyed_int Try.underlying54 (zero_bool wr) (key_int (a := (b : Int)) (by omega) (by omega)) trivial
                  rw [freeF_at M n b hlb] at hlk
                  have HW1 := hide (fun W hW => wear_at2 (w.heap.size + 1) w.heap.size L' b (by rw [HLL.out]; exact hlb) W hW)
                  have HW2 := hide (fun W hW => wear_at2 (w.heap.size + 1) w.heap.size L' j (by rw [HLL.out]; exact hjn) W hW)
                  have HNO := hide (HALL.out b hlb)
                  rw [HSN.out b] at HW1
                  rw [HSN.out j] at HW2
                  generalize (M.getD b (0, 0)).2 = y at *
                  generalize (M.getD j (0, 0)).2 = z at *
                  generalize (M.getD b (0, 0)).1 = x at *
                  clear hp hm hB
                  by_cases hx : x = 1
                  · have hx1 : (x == 1) = true := by rw [hx]; rfl
                    have hno := HNO.out hx
                    unfold aheadB at hno
                    rw [if_pos rfl] at hno
                    have hno2 : ¬ z < y := by simpa using hno
                    clear hno hx HNO
                    go_wp2_with fail
                    refine (HW1.out _ HPX.out).mono ?_
                    rintro e w7 ⟨rfl, rfl⟩
                    go_wp2_with fail
                    refine (HW2.out _ HPX.out).mono ?_
                    rintro e w8 ⟨rfl, rfl⟩
                    go_wp2_with fail
                    go_roundw
                    case rel => exact ⟨b + 1, by omega, by go_num, HPX.out, HMX.out, HBX.out⟩
                    case measure => simp [intOf]; omega
                  · have hx1 : (x == 1) = false := beq_eq_false_iff_ne.2 hx
                    clear hx HNO
                    go_wp2_with fail
                    go_roundw
                    case rel => exact ⟨b + 1, by omega, by go_num, HPX.out, HMX.out, HBX.out⟩
                    case measure => simp [intOf]; omega
                · obtain rfl : n = b := by omega
                  have hlk := hm.look Keyed_int Try.underlying54 (zero_bool wr) (key_int (a := (j : Int)) (by omega) (by omega)) trivial
                  rw [freeF_at M n j hjn, HJ1.out] at hlk
                  have HS1 := hide (fun W hW => state_at2 (w.heap.size + 1) w.heap.size L' j (by rw [HLL.out]; exact hjn) W hW)
                  rw [HS2.out] at HS1
                  clear hp hm hB
                  go_wp2_with fail
                  refine (HS1.out _ HPX.out).mono ?_
                  rintro e w7 ⟨rfl, rfl⟩
                  go_wp2
                  go_ret
                  exact ⟨rfl, HBX.out⟩
set_option maxRecDepth 100000 in
set_option maxHeartbeats 4000000 in
theorem poolLeast_big (zs : List Int) (hzs : ∀ z ∈ zs, (Lit.int .u8 z).wf = true) (a : Option Addr) (cap : Nat) (hcap : zs.length ≤ cap) (hmaxl : zs.length ≤ 9223372036854775807) (us : Int) (u0 : 0 ≤ us) (u1 : us ≤ 4294967295) (most : Bool) (w : World)
    (hat : ∀ i, i < zs.length → ∃ b off, a = some ⟨b, off, none⟩ ∧ b < w.heap.size ∧ w.cell? ⟨b, off + i, none⟩ = some (.int .u8 (zs.getD i 0))) (hbig : 30 < zs.length) :
    Calls Try.prog 6 #[.slice a zs.length cap, .int .u32 us, .bool most] w fun e w' => e = .returned (.bool true) ∧ Below w.heap.size w w' := by
  have HZS := hide hzs
  have HAT := hide hat
  clear hzs hat
  have hmm := @run_makeMap Try.prog
  obtain ⟨n, hn, n1, n30⟩ : ∃ n : Nat, n = 30 ∧ 1 ≤ n ∧ n ≤ 30 := ⟨_, rfl, by omega, by omega⟩
  go_enter Try.func6, Try.ntmps6
  go_wp2_with fail
  rw [show ((30 : Int)) = (n : Int) by omega]
  have hnl : n ≤ zs.length := by omega
  clear hn
  refine (new_yes n n1 (by omega) _).mono ?_
  rintro e w1 ⟨rfl, hp, hb⟩
  have HP := hide hp
  have HB := hide hb
  clear hp hb
  go_wp2_with fail
  refine (wakes11 _).mono ?_
  rintro e w3 ⟨rfl, hb3⟩
  have HP3 := hide (HP.out.below hb3)
  have HB3 := hide (below_trans HB.out hb3)
  clear hb3 HP HB
  go_wp2_with fail
  go_loopw [45] (fun i W => ∃ (k : Nat) (M : List (Int × Int)), k ≤ n ∧ i = .int .i64 k ∧ M.length = n ∧ PoolAt W (w.heap.size + 1) w.heap.size M ∧ Below w.heap.size w W) (fun i _ => n - (intOf i).toNat)
  case atStart => exact ⟨0, List.replicate n (1, 0), by omega, rfl, by simp, HP3.out, HB3.out⟩
  case round =>
    clear HP3 HB3
    obtain ⟨k, M, hk, rfl, hM, hp, hB⟩ := hrel
    have HPX := hide hp
    have HBX := hide hB
    have HML := hide hM
    by_cases hlt : k < n
    · obtain ⟨b, off, rfl, hb, c0⟩ := HAT.out k (by omega)
      have d0 : wr.cell? ⟨b, off + k, none⟩ = some (.int .u8 (zs.getD k 0)) := (hB.cell (p := ⟨b, off + k, none⟩) hb).trans c0
      obtain ⟨x0, x1⟩ := wf_u8 (HZS.out (zs.getD k 0) (by simp only [List.getD, List.getElem?_eq_getElem (show k < zs.length by omega), Option.getD_some]; exact List.getElem_mem _))
      generalize zs.getD k 0 = x at *
      have hbw : b < wr.heap.size := Nat.lt_of_lt_of_le hb hB.size
      have HW1 := hide (fun W hW => worn_any (w.heap.size + 1) w.heap.size M k x W hW)
      have hl1 := (show (wornL M k x).length = n by unfold wornL; split <;> simp [hM])
      have HL1 := hide hl1
      generalize wornL M k x = M1 at *
      have HS1 := hide (fun W hW => set_any (w.heap.size + 1) w.heap.size M1 k 2 W hW)
      have HL2 := hide (show (setL M1 k 2).length = n by unfold setL; split <;> simp [hl1])
      generalize setL M1 k 2 = M2 at *
      clear hp hB hM hb c0 hl1
      go_wp2_with fail
      refine (HW1.out _ HPX.out).mono ?_
      rintro e w5 ⟨rfl, hp5, ho5⟩
      have HP5 := hide hp5
      have HB5 := hide (ho5.below HBX.out (Nat.le_refl _) HBX.out.size)
      clear hp5 ho5 d0
      go_wp2_with fail
      · refine (HS1.out _ HP5.out).mono ?_
        rintro e w6 ⟨rfl, hp6, ho6⟩
        have HP6 := hide hp6
        have HB6 := hide (ho6.below HB5.out (Nat.le_refl _) HB5.out.size)
        clear hp6 ho6
        go_wp2_with fail
        go_roundw
        case rel => exact ⟨k + 1, M2, by omega, by go_num, HL2.out, HP6.out, HB6.out⟩
        case measure => simp [intOf]; omega
      · go_roundw
        case rel => exact ⟨k + 1, M1, by omega, by go_num, HL1.out, HP5.out, HB5.out⟩
        case measure => simp [intOf]; omega
    · obtain rfl : n = k := by omega
      clear hp hB hM
      have hbm := heap_lt HPX.out.head
      have HM0 := hide (MapIs.made wr Try.prog 3)
      have HPA := hide (show PoolAt (wr.alloc (.map #[] 0)) (w.heap.size + 1) w.heap.size M from HPX.out.below ((Below.refl _ _).alloc (Nat.le_refl _) _))
      have HBA := hide (HBX.out.alloc HBX.out.size (.map #[] 0))
      generalize hbmm : wr.heap.size = bm at *
      have HBM := hide hbm
      clear HPX HBX hbm
      go_wp2_with fail
      go_loopw [66] (fun i W => ∃ (k : Nat) (cm : Nat), k ≤ n ∧ i = .int .i64 k ∧ PoolAt W (w.heap.size + 1) w.heap.size M ∧ MapIs W Try.prog 3 bm k cm (freeF M k) ∧ Below w.heap.size w W) (fun i _ => n - (intOf i).toNat)
      case atStart => exact ⟨0, 0, by omega, rfl, HPA.out, by rw [freeF_none M 0 rfl]; exact HM0.out, HBA.out⟩
      case round =>
        clear HPA HM0 HBA
        obtain ⟨j, cm, hj, rfl, hp, hm, hB⟩ := hrel
        have HPX := hide hp
        have HBX := hide hB
        have HMX := hide hm
        by_cases hlj : j < n
        · have HS1 := hide (state_at2 (w.heap.size + 1) w.heap.size M j (by rw [HML.out]; exact hlj) wr hp)
          have HFN := hide (freeF_next M j)
          generalize (M.getD j (0, 0)).1 = x at *
          clear hp hm hB
          go_wp2_with fail
          refine HS1.out.mono ?_
          rintro e w5 ⟨rfl, rfl⟩
          go_wp2_with (at_mapUpdate; refine wpList_mapStore _ rfl _ _ _ 54 rfl 3 4 Keyed_int Try.underlying54 bm j cm (freeF M j) rfl HMX.out (by unfold maxLen; omega) (.int .i64 (j : Int)) (.bool (x == 1)) (.int .i64 (j : Int)) rfl rfl (key_int (by omega) (by omega)) trivial ?_; intro w6 hm6 hg6; have HM6 := hide hm6; have HO6 := hide (only_of_grown hg6); clear hm6 hg6)
          have HP7 := hide (HPX.out.only1 HO6.out (by have := HBM.out; omega) (by have := HBM.out; omega))
          have HB7 := hide (HO6.out.below HBX.out (by have := HBM.out; omega) HBX.out.size)
          go_roundw
          case rel => exact ⟨j + 1, _, by omega, by go_num, HP7.out, by have := HM6.out; rw [HFN.out] at this; exact this, HB7.out⟩
          case measure => simp [intOf]; omega
        · obtain rfl : n = j := by omega
          clear hp hm hB
          obtain ⟨wq, rfl⟩ : ∃ wq : World, wq = wr := ⟨_, rfl⟩
          have hML := HML.out
          by_cases hbest : bestK false M M.length < 0
          · obtain ⟨hz, hl⟩ := take_none false M hbest
            obtain ⟨-, hnone⟩ := bestK_some false M M.length
            have HNONE := hide (fun b (hb : b < n) (h1 : (M.getD b (0, 0)).1 = 1) => (absurd (hnone ⟨b, by omega, h1⟩) (by omega) : False))
            have HTK := take_any (w.heap.size + 1) w.heap.size M (by omega) wq HPX.out
            rw [hz, hl] at HTK
            have HTK2 := hide HTK
            clear HTK hz hl hnone hbest hML
            cases most
            all_goals
              go_wp2_with fail
              refine HTK2.out.mono ?_
              rintro e w5 ⟨rfl, hp5, ho5⟩
              have HM5 := hide (HMX.out.only ho5 (by have := HBM.out; omega))
              have HB5 := hide (ho5.below HBX.out (Nat.le_refl _) HBX.out.size)
              clear HMX HBX HPX hp5 ho5
              have HPX := hide (show True from trivial)
              have HMX := HM5
              have HBX := HB5
              clear HM5 HB5
              go_wp2_with fail
              go_loopw [99] (fun i W => ∃ k : Nat, k ≤ n ∧ i = .int .i64 k ∧ MapIs W Try.prog 3 bm n cm (freeF M n) ∧ Below w.heap.size w W) (fun i _ => n - (intOf i).toNat)
              case atStart => exact ⟨0, by omega, rfl, HMX.out, HBX.out⟩
              case round =>
                clear HPX HMX HBX
                obtain ⟨b, hb, rfl, hm, hB⟩ := hrel
                have HMX := hide hm
                have HBX := hide hB
                by_cases hlb : b < n
                · have hlk := hm.look Keyed_int Try.underlying54 (zero_bool wr) (key_int (a := (b : Int)) (by omega) (by omega)) trivial
                  rw [freeF_at M n b hlb] at hlk
                  have hx1 : ((M.getD b (0, 0)).1 == 1) = false := beq_eq_false_iff_ne.2 (HNONE.out b hlb)
                  rw [hx1] at hlk
                  clear hm hB hx1
                  go_wp2_with fail
                  go_roundw
                  case rel => exact ⟨b + 1, by omega, by go_num, HMX.out, HBX.out⟩
                  case measure => simp [intOf]; omega
                · obtain rfl : n = b := by omega
                  clear hm hB
                  go_wp2
                  go_ret
                  exact ⟨rfl, HBX.out⟩
          · obtain ⟨j, hjn, hz, hl, hj1, hall⟩ := take_some false M (by have := bestK_bd false M M.length; omega)
            rw [hML] at hjn
            have HTK := take_any (w.heap.size + 1) w.heap.size M (by omega) wq HPX.out
            rw [hz, hl] at HTK
            have HTK2 := hide HTK
            clear HTK hz hl hbest
            cases most
            · generalize hL'' : M.set j (2, (M.getD j (0, 0)).2) = L' at *
              have hL'' := hL''.symm
              have HLL := hide (show L'.length = n by rw [hL'', List.length_set]; exact hML)
              have HSN := hide (fun b => show (L'.getD b (0, 0)).2 = (M.getD b (0, 0)).2 by rw [hL'']; exact snd_set M j (by omega) b)
              have HS2 := hide (show (L'.getD j (0, 0)).1 = 2 by rw [hL'', getD_set _ _ _ _ (by omega), if_pos rfl])
              have HJ1 := hide (show ((M.getD j (0, 0)).1 == 1) = true by rw [hj1]; rfl)
              have HALL := hide (fun b (hb : b < n) => hall b (by omega))
              clear hL'' hj1 hall
              go_wp2_with fail
              refine HTK2.out.mono ?_
              rintro e w5 ⟨rfl, hp5, ho5⟩
              have HM5 := hide (HMX.out.only ho5 (by have := HBM.out; omega))
              have HB5 := hide (ho5.below HBX.out (Nat.le_refl _) HBX.out.size)
              clear HMX HBX HPX ho5 hML
              have HPX := hide hp5
              have HMX := HM5
              have HBX := HB5
              clear HM5 HB5 hp5
              go_wp2_with fail
              go_loopw [99] (fun i W => ∃ k : Nat, k ≤ n ∧ i = .int .i64 k ∧ PoolAt W (w.heap.size + 1) w.heap.size L' ∧ MapIs W Try.prog 3 bm n cm (freeF M n) ∧ Below w.heap.size w W) (fun i _ => n - (intOf i).toNat)
              case atStart => exact ⟨0, by omega, rfl, HPX.out, HMX.out, HBX.out⟩
              case round =>
                clear HPX HMX HBX
                obtain ⟨b, hb, rfl, hp, hm, hB⟩ := hrel
                have HPX := hide hp
                have HMX := hide hm
                have HBX := hide hB
                by_cases hlb : b < n
                · have hlk := hm.look Keyed_int Try.underlying54 (zero_bool wr) (key_int (a := (b : Int)) (by omega) (by omega)) trivial
                  rw [freeF_at M n b hlb] at hlk
                  have HW1 := hide (fun W hW => wear_at2 (w.heap.size + 1) w.heap.size L' b (by rw [HLL.out]; exact hlb) W hW)
                  have HW2 := hide (fun W hW => wear_at2 (w.heap.size + 1) w.heap.size L' j (by rw [HLL.out]; exact hjn) W hW)
                  have HNO := hide (HALL.out b hlb)
                  rw [HSN.out b] at HW1
                  rw [HSN.out j] at HW2
                  generalize (M.getD b (0, 0)).2 = y at *
                  generalize (M.getD j (0, 0)).2 = z at *
                  generalize (M.getD b (0, 0)).1 = x at *
                  clear hp hm hB
                  by_cases hx : x = 1
                  · have hx1 : (x == 1) = true := by rw [hx]; rfl
                    have hno := HNO.out hx
                    unfold aheadB at hno
                    rw [if_neg (by simp)] at hno
                    have hno2 : ¬ y < z := by simpa using hno
                    clear hno hx HNO
                    go_wp2_with fail
                    refine (HW1.out _ HPX.out).mono ?_
                    rintro e w7 ⟨rfl, rfl⟩
                    go_wp2_with fail
                    refine (HW2.out _ HPX.out).mono ?_
                    rintro e w8 ⟨rfl, rfl⟩
                    go_wp2_with fail
                    go_roundw
                    case rel => exact ⟨b + 1, by omega, by go_num, HPX.out, HMX.out, HBX.out⟩
                    case measure => simp [intOf]; omega
                  · have hx1 : (x == 1) = false := beq_eq_false_iff_ne.2 hx
                    clear hx HNO
                    go_wp2_with fail
                    go_roundw
                    case rel => exact ⟨b + 1, by omega, by go_num, HPX.out, HMX.out, HBX.out⟩
                    case measure => simp [intOf]; omega
                · obtain rfl : n = b := by omega
                  have hlk := hm.look Keyed_int Try.underlying54 (zero_bool wr) (key_int (a := (j : Int)) (by omega) (by omega)) trivial
                  rw [freeF_at M n j hjn, HJ1.out] at hlk
                  have HS1 := hide (fun W hW => state_at2 (w.heap.size + 1) w.heap.size L' j (by rw [HLL.out]; exact hjn) W hW)
                  rw [HS2.out] at HS1
                  clear hp hm hB
                  go_wp2_with fail
                  refine (HS1.out _ HPX.out).mono ?_
                  rintro e w7 ⟨rfl, rfl⟩
                  go_wp2
                  go_ret
                  exact ⟨rfl, HBX.out⟩
            · have hself := lst_set_self M j (by omega) 0 hj1
              obtain ⟨j2, hj2n, hz2, hl2, hj12, hall2⟩ := take_some true M (by
                have hb := bestK_bd true M M.length
                obtain ⟨-, hno⟩ := bestK_some true M M.length
                exact hno ⟨j, by omega, hj1⟩)
              rw [hML] at hj2n
              have HSELF := hide hself
              have HZ2 := hide hz2
              have HL2 := hide hl2
              have HHJ := hide hj12
              have HHA := hide hall2
              generalize hLQ : M.set j (2, (M.getD j (0, 0)).2) = LQ at *
              clear hself hz2 hl2 hj12 hall2 hj1 hall hLQ
              go_wp2_with fail
              refine HTK2.out.mono ?_
              rintro e w5 ⟨rfl, hp5, ho5⟩
              have HP5 := hide hp5
              have HM5 := hide (HMX.out.only ho5 (by have := HBM.out; omega))
              have HB5 := hide (ho5.below HBX.out (Nat.le_refl _) HBX.out.size)
              clear HMX HBX HPX ho5 hp5 HTK2
              go_wp2_with fail
              refine (set_any (w.heap.size + 1) w.heap.size LQ j 1 _ HP5.out).mono ?_
              rintro e w6 ⟨rfl, hp6, ho6⟩
              rw [HSELF.out.1] at hp6
              have HP6 := hide hp6
              have HM6 := hide (HM5.out.only ho6 (by have := HBM.out; omega))
              have HB6 := hide (ho6.below HB5.out (Nat.le_refl _) HB5.out.size)
              have htk := most_any (w.heap.size + 1) w.heap.size M (by omega) w6 hp6
              rw [HZ2.out, HL2.out] at htk
              have HTK3 := hide htk
              generalize hL'' : M.set j2 (2, (M.getD j2 (0, 0)).2) = L' at *
              have hL'' := hL''.symm
              have hj1 := HHJ.out
              have hall := HHA.out
              clear hp6 ho6 HM5 HB5 HP5 htk HZ2 HL2 hjn HHJ HHA
              have hjn := hj2n
              generalize j2 = j at *
              have HLL := hide (show L'.length = n by rw [hL'', List.length_set]; exact hML)
              have HSN := hide (fun b => show (L'.getD b (0, 0)).2 = (M.getD b (0, 0)).2 by rw [hL'']; exact snd_set M j (by omega) b)
              have HS2 := hide (show (L'.getD j (0, 0)).1 = 2 by rw [hL'', getD_set _ _ _ _ (by omega), if_pos rfl])
              have HJ1 := hide (show ((M.getD j (0, 0)).1 == 1) = true by rw [hj1]; rfl)
              have HALL := hide (fun b (hb : b < n) => hall b (by omega))
              clear hL'' hj1 hall
              go_wp2_with fail
              refine HTK3.out.mono ?_
              rintro e w7 ⟨rfl, hp7, ho7⟩
              have HMX := hide (HM6.out.only ho7 (by have := HBM.out; omega))
              have HBX := hide (ho7.below HB6.out (Nat.le_refl _) HB6.out.size)
              have HPX := hide hp7
              clear hp7 ho7 HM6 HB6 HP6 HTK3 hML hj2n
              go_wp2_with fail
              go_loopw [99] (fun i W => ∃ k : Nat, k ≤ n ∧ i = .int .i64 k ∧ PoolAt W (w.heap.size + 1) w.heap.size L' ∧ MapIs W Try.prog 3 bm n cm (freeF M n) ∧ Below w.heap.size w W) (fun i _ => n - (intOf i).toNat)
              case atStart => exact ⟨0, by omega, rfl, HPX.out, HMX.out, HBX.out⟩
              case round =>
                clear HPX HMX HBX
                obtain ⟨b, hb, rfl, hp, hm, hB⟩ := hrel
                have HPX := hide hp
                have HMX := hide hm
                have HBX := hide hB
                by_cases hlb : b < n
                · have hlk := hm.look Keyed_int Try.underlying54 (zero_bool wr) (key_int (a := (b : Int)) (by omega) (by omega)) trivial
                  rw [freeF_at M n b hlb] at hlk
                  have HW1 := hide (fun W hW => wear_at2 (w.heap.size + 1) w.heap.size L' b (by rw [HLL.out]; exact hlb) W hW)
                  have HW2 := hide (fun W hW => wear_at2 (w.heap.size + 1) w.heap.size L' j (by rw [HLL.out]; exact hjn) W hW)
                  have HNO := hide (HALL.out b hlb)
                  rw [HSN.out b] at HW1
                  rw [HSN.out j] at HW2
                  generalize (M.getD b (0, 0)).2 = y at *
                  generalize (M.getD j (0, 0)).2 = z at *
                  generalize (M.getD b (0, 0)).1 = x at *
                  clear hp hm hB
                  by_cases hx : x = 1
                  · have hx1 : (x == 1) = true := by rw [hx]; rfl
                    have hno := HNO.out hx
                    unfold aheadB at hno
                    rw [if_pos rfl] at hno
                    have hno2 : ¬ z < y := by simpa using hno
                    clear hno hx HNO
                    go_wp2_with fail
                    refine (HW1.out _ HPX.out).mono ?_
                    rintro e w7 ⟨rfl, rfl⟩
                    go_wp2_with fail
                    refine (HW2.out _ HPX.out).mono ?_
                    rintro e w8 ⟨rfl, rfl⟩
                    go_wp2_with fail
                    go_roundw
                    case rel => exact ⟨b + 1, by omega, by go_num, HPX.out, HMX.out, HBX.out⟩
                    case measure => simp [intOf]; omega
                  · have hx1 : (x == 1) = false := beq_eq_false_iff_ne.2 hx
                    clear hx HNO
                    go_wp2_with fail
                    go_roundw
                    case rel => exact ⟨b + 1, by omega, by go_num, HPX.out, HMX.out, HBX.out⟩
                    case measure => simp [intOf]; omega
                · obtain rfl : n = b := by omega
                  have hlk := hm.look Keyed_int Try.underlying54 (zero_bool wr) (key_int (a := (j : Int)) (by omega) (by omega)) trivial
                  rw [freeF_at M n j hjn, HJ1.out] at hlk
                  have HS1 := hide (fun W hW => state_at2 (w.heap.size + 1) w.heap.size L' j (by rw [HLL.out]; exact hjn) W hW)
                  rw [HS2.out] at HS1
                  clear hp hm hB
                  go_wp2_with fail
                  refine (HS1.out _ HPX.out).mono ?_
                  rintro e w7 ⟨rfl, rfl⟩
                  go_wp2
                  go_ret
                  exact ⟨rfl, HBX.out⟩
theorem poolLeast_walk (v : Value) (us : Int) (u0 : 0 ≤ us) (u1 : us ≤ 4294967295) (most : Bool) (w : World) (hv : ∃ zs : List Int, NumsAt w .u8 v zs ∧ (∀ z ∈ zs, (Lit.int .u8 z).wf = true) ∧ zs.length ≤ maxLen) :
    Calls Try.prog 6 #[v, .int .u32 us, .bool most] w fun e w' => e = .returned (.bool true) ∧ Below w.heap.size w w' := by
  obtain ⟨zs, hz, hw, hm⟩ := hv
  obtain ⟨a, cap, rfl, hc, hat⟩ := nums_at hz
  unfold maxLen at hm
  by_cases h0 : zs.length = 0
  · exact poolLeast_none zs hw a cap hc (by omega) us u0 u1 most w hat h0
  · by_cases h2 : zs.length = 1
    · exact poolLeast_one zs hw a cap hc (by omega) us u0 u1 most w hat h2
    by_cases h1 : zs.length ≤ 30
    · exact poolLeast_few zs hw a cap hc (by omega) us u0 u1 most w hat (by omega)
    · exact poolLeast_big zs hw a cap hc (by omega) us u0 u1 most w hat (by omega)

set_option maxRecDepth 100000 in
theorem poolLeast_lifted (os : Os) (started : os.Started) (H : Type) (enc : TypeId × Value → H) :
    ReturnsInHanded {} Try.checked os 6 .any (Rows.poolLeastSpec.pre6 enc Try.prog Try.f6 Rows.poolLeastRow.domain false) (Rows.poolLeastSpec.post enc Try.prog Try.f6 false true false false) := by
  refine returnsInHanded_of_change (C := Try.checked) own started (by kernel_rfl) Try.func6
    (ChangeSpec.witness6 (enc := enc) (C := Try.checked) false ⟨#[], #[.slice none 0 0, .int .u32 0, .bool false], []⟩ 8 (by kernel_rfl) (by kernel_rfl) (by kernel_rfl) (by kernel_rfl)) ?_
  intro W base args ds gs before hval0 hW _ _
  have hval : ∀ (j : Nat) t v, Try.f6.params[j]? = some t → args[j]? = some v → Value.okWide Try.prog W .any base t v := hval0
  have hW' := hW
  obtain ⟨p, q, hA0, hV, rfl, hfz, hnd⟩ := hW
  have hA : DataW.TrodAll enc Try.prog W 0 (fun _ => true) true Try.f6.params.toList args.toList ds p := hA0
  rw [Try.params6] at hA hval
  obtain ⟨v0, vs0, d0, ds0, p0, q0, hargs, rfl, rfl, h0, r0⟩ := trodAll_cons hA
  obtain ⟨v1, vs1, d1, ds1, p1, q1, rfl, rfl, rfl, h1, r1⟩ := trodAll_cons r0
  obtain ⟨v2, vs2, d2, ds2, p2, q2, rfl, rfl, rfl, h2, r2⟩ := trodAll_cons r1
  obtain ⟨rfl, rfl, rfl⟩ := trodAll_nil r2
  obtain rfl : args = #[v0, v1, v2] := by cases args; simp_all
  obtain ⟨rfl, rfl⟩ := trodVars_none hV
  have z0 := open_nums_slice Try.underlying52 Try.underlying5 (by kernel_rfl) (hval 0 52 v0 rfl rfl) h0
  obtain ⟨used, rfl, rfl, rfl, w1⟩ := open_int Try.underlying53 (hval 1 53 v1 rfl rfl) h1
  have z1 := wf_u32 w1
  obtain ⟨most, rfl, rfl, rfl⟩ := open_bool Try.underlying4 (hval 2 4 v2 rfl rfl) h2
  clear hA0 hval0
  refine (poolLeast_walk v0 used z1.1 z1.2 most W z0).mono fun e W' ⟨he, hb⟩ => ?_
  subst he
  exact ⟨_, rfl, post_law laidOut (of_decide_eq_true (by kernel_rfl)) rfl rfl Try.underlying4 hW' ⟨rfl, rfl, rfl⟩ hb⟩

/-- THE STATEMENT -/
theorem poolLeast_holds : Rows.PoolLeastSaid :=
  OpenClaim.holds_of_wide 6 Try.f6 rfl rfl rfl rfl rfl rfl rfl ⟨rfl, rfl, rfl, rfl, rfl⟩ rfl rfl rfl rfl rfl (by kernel_rfl) Try.func6 (by kernel_rfl)
    (of_decide_eq_true (by kernel_rfl)) (by unfold Func.isWrapper; first | (rw [if_pos (by decide +kernel)]; kernel_rfl) | (rw [if_neg (by decide +kernel)]; exact ⟨rfl, rfl⟩))
    (fun os started H enc _ => poolLeast_lifted os started H enc)

end Go.Proofs.Ytbkbigpijdljpaa
