/-
  Layer 5's laws, walked and closed: NandOnce.
-/
import Derived.Test.YthippbckjldijaaNand21
--import Derived.Test.Zdbg
namespace Go.Proofs.Ythippbckjldijaa
set_option linter.unusedSimpArgs false
set_option linter.unusedVariables false
open Go.RowKit Go.WideShapes Go.ChangeShapes Go.ChangeAt Go.Deep

theorem OnceI.erase_next {S : ChipM} {n : Nat} (h : OnceI S n) {k i : Nat} (hk : k < 4) : OnceI S (n + 1) := { h with progs := by have := h.progs; omega, eras := by have := h.eras; omega, sins := by have := h.sins; omega, blk := fun j hj => (h.blk j hj).more }
set_option maxRecDepth 100000 in
set_option maxHeartbeats 2000000 in
theorem nandOnce_walk (a : Option Addr) (L : List ActM) (cap : Nat) (hcap : L.length ≤ cap) (h63 : L.length ≤ 9223372036854775807) (w : World) (hin : ActsIn w a L) (hok : ∀ x ∈ L, ActOk x) :
    Calls Try.prog 5 #[.slice a L.length cap] w fun e w' => e = .returned (.bool true) ∧ Below w.heap.size w w' := by
  have HIN := hide hin
  have HOK := hide hok
  clear hin hok
  have HNEW := hide (fun W => new_go 4 4 32 (by decide) [] (.slice none 0 0) W (.inl ⟨rfl, rfl⟩) (by decide))
  rw [show badS (newS 4 4 32) [] = newS 4 4 32 from rfl] at HNEW
  have HF0 := hide once_first
  have HK0 := hide known_first
  obtain ⟨m, hm⟩ : ∃ m : Nat, min L.length 60 = m := ⟨_, rfl⟩
  have hm1 : m ≤ L.length := by omega
  have hm2 : m ≤ 60 := by omega
  have hmF : (if (60 : Int) < (L.length : Int) then (60 : Int) else (L.length : Int)) = (m : Int) := by split <;> omega
  have hmI : min (L.length : Int) 60 = (m : Int) := by omega
  have hcI : (m : Int) ≤ (cap : Int) := by omega
  clear hm
  have hmm := @run_makeMap Try.prog
  go_enter Try.func5, Try.ntmps5
  go_wp2_with fail
  obtain ⟨oa, hoa⟩ : ∃ oa, oa = Obj.cells #[.int .i64 4, .int .i64 4, .int .i64 32] 26 := ⟨_, rfl⟩
  rw [← hoa]
  have BL := hide ((Below.refl w.heap.size w).alloc (Nat.le_refl _) oa)
  generalize w.alloc oa = w0 at *
  clear hoa oa
  refine (HNEW.out _).mono ?_
  rintro e w1 ⟨P, Q, G, rfl, hn, hb⟩
  have N1 := hide hn
  have B1 := hide (BL.out.trans (hb.mono BL.out.size))
  have B1z := hide (show w.heap.size ≤ w0.heap.size from BL.out.size)
  clear hn hb HNEW BL
  generalize newS 4 4 32 = S0 at *
  go_wp2_with fail
  refine (wakes_any _).mono ?_
  rintro e w2 ⟨rfl, hb⟩
  have N2 := hide (N1.out.below hb)
  have B2 := hide (B1.out.trans (hb.mono B1.out.size))
  clear hb N1 B1
  go_wp2_with fail
  have hal := (Below.refl w2.heap.size w2).alloc (Nat.le_refl _) (.map #[] 0)
  have M3 := hide (MapIs.made w2 Try.prog 63)
  have N3 := hide (N2.out.below hal)
  have B3 := hide (B2.out.trans (hal.mono B2.out.size))
  have HBM := hide (show w.heap.size ≤ w2.heap.size from B2.out.size)
  clear hal N2 B2
  generalize w2.alloc (.map #[] 0) = w3 at *
  generalize w2.heap.size = bm at *
  go_loopw [46] (fun z W => ∃ (j : Nat) (S : ChipM) (n c : Nat) (f : Lit → Option Value), j ≤ m ∧ n ≤ j ∧ z = .int .i64 j ∧ NandAt W P Q w0.heap.size G S ∧ OnceI S j ∧ KnownF S f ∧ MapIs W Try.prog 63 bm n c f ∧ Below w.heap.size w W) (fun z _ => m - (intOf z).toNat)
  case atStart => exact ⟨0, _, _, _, _, by omega, Nat.le_refl _, rfl, N3.out, HF0.out, HK0.out, M3.out, B3.out⟩
  case round =>
    obtain ⟨j, S, n, c, f, hj, hnj, rfl, hn, ho, hkf, hmp, hb⟩ := hrel
    have HNM := hide (show n < maxLen by unfold maxLen; omega)
    have HNJ := hide hnj
    clear hnj
    have N4 := hide hn
    have OI := hide ho
    have KF := hide hkf
    have M4 := hide hmp
    have B4 := hide hb
    clear hn ho hkf hmp hb N3 M3 B3 HF0 HK0
    clear S0
    by_cases hlt : j < m
    · obtain ⟨b, off, rfl, hbl, c0, c1, c2, c3, c4⟩ := (HIN.out.below B4.out) j (by omega)
      have hx := HOK.out _ (show L.getD j act0 ∈ L by simp [List.getD, show j < L.length by omega])
      generalize L.getD j act0 = x at *
      obtain ⟨xd, xb, xp, xx, xy⟩ := x
      obtain ⟨⟨d0, d1⟩, ⟨b0, b1⟩, ⟨p0, p1⟩, hx3, hx4⟩ := hx
      dsimp only at *
      obtain ⟨k, hk4, hbF, hbI⟩ : ∃ k : Nat, k < 4 ∧ (if xb > 0 then xb else 0) % 4 = (k : Int) ∧ (max 0 xb) % 4 = (k : Int) := by
        refine ⟨((max 0 xb) % 4).toNat, by omega, ?_, by omega⟩
        split <;> omega
      obtain ⟨i, hi4, hpF, hpI⟩ : ∃ k : Nat, k < 4 ∧ (if xp > 0 then xp else 0) % 4 = (k : Int) ∧ (max 0 xp) % 4 = (k : Int) := by
        refine ⟨((max 0 xp) % 4).toNat, by omega, ?_, by omega⟩
        split <;> omega
      obtain ⟨t, ht4, hdF, hdI⟩ : ∃ k : Nat, k < 4 ∧ (if xd > 0 then xd else 0) % 4 = (k : Int) ∧ (max 0 xd) % 4 = (k : Int) := by
        refine ⟨((max 0 xd) % 4).toNat, by omega, ?_, by omega⟩
        split <;> omega
      go_upto_region 9 with (fail)
      obtain ⟨ob, hob⟩ : ∃ ob, ob = (Obj.cells #[.int .i64 xd, .int .i64 xb, .int .i64 xp, .string xx, .string xy] 38) := ⟨_, rfl⟩
      rw [← hob]
      have hal := (Below.refl wr.heap.size wr).alloc (Nat.le_refl _) ob
      have XB5 := hide (heap_new wr ob)
      have N5 := hide (N4.out.below hal)
      have M5 := hide (M4.out.below hal)
      have B5 := hide (B4.out.trans (hal.mono B4.out.size))
      clear hal N4 M4 B4 hbl c0 c1 c2 c3 c4
      generalize wr.alloc ob = w5 at *
      generalize wr.heap.size = xq at *
      rw [hob] at XB5
      clear hob ob
      have e0 := cell_of_block XB5.out 0
      have e1 := cell_of_block XB5.out 1
      have e2 := cell_of_block XB5.out 2
      have e3 := cell_of_block XB5.out 3
      have N6 := hide N5.out.drew
      have M6 := hide (show MapIs w5.drew Try.prog 63 bm n c f from M5.out.kept rfl)
      have B6 := hide B5.out.drew
      have f0 : w5.drew.cell? ⟨xq, 0, none⟩ = some (.int .i64 xd) := e0
      have f3 : w5.drew.cell? ⟨xq, 3, none⟩ = some (.string xx) := e3
      clear N5 M5 B5 XB5
      by_cases ht3 : t = 3
      · subst ht3
        go_region
        rw [hbI, hpI]
        clear e0 e1 e2 e3 hbF hbI hpF hpI
        generalize w5.drew = w6 at *
        go_wp2_with fail
        refine (erase_any P Q w0.heap.size G S (OI.out.ok (by omega)) (OI.out.few (by omega)) (k : Int) w6 N6.out).mono ?_
        rintro e w7 ⟨rfl, hn, ht⟩
        have HE := OI.out.erase hk4
        rw [HE.1]
        have N7 := hide hn
        have M7 := hide (M6.out.keeps ht.2)
        have B7 := hide (B6.out.trans (ht.1.mono B1z.out))
        have OI7 := hide HE.2.1
        have HOT := hide HE.2.2
        clear hn ht N6 M6 B6 HE f0 f3
        have GF := hide (gone_first KF.out k)
        go_wp2_with fail
        go_loopw [67] (fun z W => ∃ (l c' : Nat) (f' : Lit → Option Value), l ≤ 4 ∧ z = .int .i64 l ∧ NandAt W P Q w0.heap.size G (eraseT S (k : Int)).1 ∧ GoneF S k l f' ∧ MapIs W Try.prog 63 bm n c' f' ∧ Below w.heap.size w W) (fun z _ => 4 - (intOf z).toNat)
        case atStart => exact ⟨0, _, _, by omega, rfl, N7.out, GF.out, M7.out, B7.out⟩
        case round =>
          obtain ⟨l, c', f', hl, rfl, hn, hgf, hmp, hb⟩ := hrel
          have N8 := hide hn
          have GF8 := hide hgf
          have M8 := hide hmp
          have B8 := hide hb
          clear hn hgf hmp hb N7 M7 B7 GF
          by_cases hl4 : l < 4
          · go_wp2_with (first | (refine wpList_mapDrop _ rfl _ _ 62 63 rfl 9 KeyedP2 Try.underlying62 bm _ _ f' rfl M8.out (pairV (k : Int) (l : Int)) (pairL (k : Int) (l : Int)) rfl (key_pair (wide_small hk4) (wide_small hl4)) (isKey_pair _ _) ?_; intro w9 hm9 hg9; have M9 := hide hm9; have HO9 := hide (only_of_grown hg9); clear hm9 hg9))
            have N9 := hide (N8.out.beside HO9.out M8.out.noCells)
            have B9 := hide (show Below w.heap.size w w9 from HO9.out.below B8.out HBM.out B8.out.size)
            have GF9 := hide (gone_next hk4 hl4 GF8.out)
            clear N8 M8 B8 HO9 GF8
            go_roundw
            case rel => exact ⟨l + 1, _, _, by omega, by go_num, N9.out, GF9.out, M9.out, B9.out⟩
            case measure => simp [intOf]; omega
          · obtain rfl : l = 4 := by omega
            rw [show ((4 : Nat) : Int) = 4 from rfl]
            have KD := hide (gone_done hk4 GF8.out HOT.out.1 HOT.out.2)
            have OID := OI7
            have ND := N8
            have MD := M8
            have BD := B8
            clear N8 M8 B8 OI7 OI KF HOT GF8
            generalize (eraseT S (k : Int)).1 = SD at *
            go_wp2_with fail
            go_loopw [117] (fun z W => ∃ k : Nat, k ≤ 4 ∧ z = .int .i64 k ∧ NandAt W P Q w0.heap.size G SD ∧ MapIs W Try.prog 63 bm n c' f' ∧ Below w.heap.size w W) (fun z _ => 4 - (intOf z).toNat)
            case atStart => exact ⟨0, by omega, rfl, ND.out, MD.out, BD.out⟩
            case round =>
              obtain ⟨k1, hk1, rfl, hn, hm, hb⟩ := hrel
              have N1 := hide hn
              have M1 := hide hm
              have B1 := hide hb
              clear hn hm hb ND MD BD
              by_cases hlt1 : k1 < 4
              · have hd1 : decide ((k1 : Int) < 4) = true := decide_eq_true (by omega)
                go_wp2_with fail
                try simp only [hd1]
                go_loopw [120] (fun z W => ∃ i : Nat, i ≤ 4 ∧ z = .int .i64 i ∧ NandAt W P Q w0.heap.size G SD ∧ MapIs W Try.prog 63 bm n c' f' ∧ Below w.heap.size w W) (fun z _ => 4 - (intOf z).toNat)
                case atStart => exact ⟨0, by omega, rfl, N1.out, M1.out, B1.out⟩
                case round =>
                  obtain ⟨i1, hi1, rfl, hn, hm, hb⟩ := hrel
                  have N2 := hide hn
                  have M2 := hide hm
                  have B2 := hide hb
                  clear hn hm hb N1 M1 B1
                  by_cases hlt2 : i1 < 4
                  · have HR := read_any P Q w0.heap.size G SD (k1 : Int) (i1 : Int) wr N2.out
                    rw [OID.out.read hlt1 hlt2, OID.out.ask hlt1 hlt2] at HR
                    have HRD := hide HR
                    have HBS := hide (OID.out.beside hlt1 hlt2)
                    have HLK := KD.out k1 i1 hlt1 hlt2
                    clear HR
                    by_cases hpx : (i1 : Int) < (SD.blk k1).next
                    · rw [if_pos hpx] at HLK
                      generalize (SD.blk k1).pages.getD i1 pg0 = pg at *
                      obtain ⟨pd, pb⟩ := pg
                      dsimp only at *
                      have HLH := hide HLK
                      clear HLK
                      go_wp2_with fail
                      refine HRD.out.mono ?_
                      rintro e w3 ⟨rfl, hb⟩
                      have N3 := hide (N2.out.below hb)
                      have M3 := hide (M2.out.below hb)
                      have B3 := hide (B2.out.trans (hb.mono B2.out.size))
                      clear hb N2 M2 B2 HRD
                      have hlk := M3.out.look_ok KeyedP2 Try.underlying62 (zero_str _) (key_pair (wide_small hlt1) (wide_small hlt2)) (isKey_pair _ _)
                      rw [HLH.out] at hlk
                      simp only [Option.getD_some, Option.isSome_some] at hlk
                      rw [show pairV (k1 : Int) (i1 : Int) = .agg #[.int .i64 (k1 : Int), .int .i64 (i1 : Int)] from rfl] at hlk
                      have hpb := HBS.out
                      go_wp2_with fail
                      go_roundw
                      case rel => exact ⟨i1 + 1, by omega, by go_num, N3.out, M3.out, B3.out⟩
                      case measure => simp [intOf]; omega
                    · rw [if_neg hpx] at HLK
                      have HBL := (OID.out.blk k1 hlt1).blank i1 hlt2 (by omega)
                      rw [HBL] at HRD HBS
                      rw [show filledP 32 ffB = ((filledP 32 ffB).1, (filledP 32 ffB).2) from rfl] at HRD HBS
                      have HRP := hide (show ∀ W, Calls Try.prog 31 #[.string ⟨#[255]⟩, .int .i64 32] W fun e w' => e = .returned (.string (filledP 32 ffB).1) ∧ Below W.heap.size W w' from fun W => by
                        have h := Try.strings_Repeat ⟨#[255]⟩ 32 W (by omega) (by show 1 * 32 ≤ _; omega)
                        rw [← ff32]
                        exact h)
                      generalize (filledP 32 ffB).1 = pd at *
                      generalize (filledP 32 ffB).2 = pb at *
                      clear HBL
                      have HLH := hide HLK
                      clear HLK
                      go_wp2_with fail
                      refine HRD.out.mono ?_
                      rintro e w3 ⟨rfl, hb⟩
                      have N3 := hide (N2.out.below hb)
                      have M3 := hide (M2.out.below hb)
                      have B3 := hide (B2.out.trans (hb.mono B2.out.size))
                      clear hb N2 M2 B2 HRD
                      have hlk := M3.out.look_ok KeyedP2 Try.underlying62 (zero_str _) (key_pair (wide_small hlt1) (wide_small hlt2)) (isKey_pair _ _)
                      rw [HLH.out] at hlk
                      simp only [Option.getD_none, Option.isSome_none] at hlk
                      rw [show pairV (k1 : Int) (i1 : Int) = .agg #[.int .i64 (k1 : Int), .int .i64 (i1 : Int)] from rfl] at hlk
                      have hpb := HBS.out
                      go_wp2_with fail
                      refine (HRP.out _).mono ?_
                      rintro e w4 ⟨rfl, hb⟩
                      have N4 := hide (N3.out.below hb)
                      have M4 := hide (M3.out.below hb)
                      have B4 := hide (B3.out.trans (hb.mono B3.out.size))
                      clear hb N3 M3 B3
                      go_wp2_with fail
                      go_roundw
                      case rel => exact ⟨i1 + 1, by omega, by go_num, N4.out, M4.out, B4.out⟩
                      case measure => simp [intOf]; omega
                  · obtain rfl : i1 = 4 := by omega
                    rw [show ((4 : Nat) : Int) = 4 from rfl]
                    go_wp2_with fail
                    go_roundw
                    case rel => exact ⟨k1 + 1, by omega, by go_num, N2.out, M2.out, B2.out⟩
                    case measure => simp [intOf]; omega
              · obtain rfl : k1 = 4 := by omega
                rw [show ((4 : Nat) : Int) = 4 from rfl]
                go_wp2_with fail
                go_roundw
                case rel => exact ⟨j + 1, SD, n, c', f', by omega, by have := HNJ.out; omega, by go_num, N1.out, OID.out, KD.out, M1.out, B1.out⟩
                case measure => simp [intOf]; omega
      · have htt : ¬ (t : Int) = 3 := by omega
        obtain ⟨mb, hmb⟩ : ∃ mb : Nat, min xx.size 32 = mb := ⟨_, rfl⟩
        have hmb1 : mb ≤ xx.size := by omega
        have hmbF : (if (32 : Int) < (xx.size : Int) then (32 : Int) else (xx.size : Int)) = (mb : Int) := by split <;> omega
        have hmbI : min (xx.size : Int) 32 = (mb : Int) := by omega
        have hmb2 : mb ≤ 32 := by omega
        have HFA := hide (fun W => full_any (xx.extract 0 mb) (by rw [ByteArray.size_extract]; omega) 32 (by decide) W)
        have HFB := hide (fun W => full_any ⟨#[]⟩ (by decide) 32 (by decide) W)
        have HZA := hide (fullB_size (xx.extract 0 mb) 32)
        have HZB := hide (fullB_size ⟨#[]⟩ 32)
        generalize fullB ⟨#[]⟩ 32 = te at *
        generalize fullB (xx.extract 0 mb) 32 = td at *
        clear hmb
        go_region
        rw [hbI, hpI]
        clear e0 e1 e2 e3 hbF hbI hpF hpI
        generalize w5.drew = w6 at *
        go_wp2_with fail
        refine (HFA.out _).mono ?_
        rintro e w7 ⟨rfl, hb⟩
        have N7 := hide (N6.out.below hb)
        have M7 := hide (M6.out.below hb)
        have B7 := hide (B6.out.trans (hb.mono B6.out.size))
        clear hb N6 M6 B6 f0 f3 HFA hmb1 hmb2 hmbF hmbI
        go_wp2_with fail
        refine (HFB.out _).mono ?_
        rintro e w8 ⟨rfl, hb⟩
        have N8 := hide (N7.out.below hb)
        have M8 := hide (M7.out.below hb)
        have B8 := hide (B7.out.trans (hb.mono B7.out.size))
        clear hb N7 M7 B7 HFB
        go_wp2_with fail
        refine (program_any P Q w0.heap.size G S (OI.out.ok (by omega)) (k : Int) (i : Int) td te w8 N8.out).mono ?_
        rintro e w9 ⟨rfl, hn, ht⟩
        have N9 := hide hn
        have M9 := hide (M8.out.keeps ht.2)
        have B9 := hide (B8.out.trans (ht.1.mono B1z.out))
        clear hn ht N8 M8 B8
        have HLK := KF.out k i hk4 hi4
        have hlk := M9.out.look_ok KeyedP2 Try.underlying62 (zero_str _) (key_pair (wide_small hk4) (wide_small hi4)) (isKey_pair _ _)
        rw [HLK] at hlk
        rw [show pairV (k : Int) (i : Int) = .agg #[.int .i64 (k : Int), .int .i64 (i : Int)] from rfl] at hlk
        by_cases hnx : (i : Int) = (S.blk k).next
        · have HP := OI.out.prog hk4 hi4 td te HZA.out HZB.out hnx
          rw [HP.1]
          have OIP := hide HP.2.1
          have HBK := hide HP.2.2
          rw [if_neg (by omega)] at hlk
          simp only [Option.getD_none, Option.isSome_none] at hlk
          have HNX := hide hnx
          clear HP HLK hnx
          go_wp2_with (at_mapUpdate; refine wpList_mapStore _ rfl _ _ _ 62 rfl 63 9 KeyedP2 Try.underlying62 bm _ _ f rfl M9.out HNM.out (pairV (k : Int) (i : Int)) (.string td) (pairL (k : Int) (i : Int)) rfl rfl (key_pair (wide_small hk4) (wide_small hi4)) (isKey_pair _ _) ?_; intro w10 hm10 hg10; have MD0 := hide hm10; have HO10 := hide (only_of_grown hg10); clear hm10 hg10)
          have ND := hide (N9.out.beside HO10.out M9.out.noCells)
          have BD := hide (show Below w.heap.size w w10 from HO10.out.below B9.out HBM.out B9.out.size)
          have KD := hide (known_prog KF.out hk4 hi4 td te (OI.out.blk k hk4).plen HNX.out HBK.out)
          have OID := OIP
          clear N9 M9 B9 OIP HBK KF OI HO10 HNX
          obtain ⟨cD, hMD⟩ : ∃ cD, MapIs w10 Try.prog 63 bm (n + 1) cD (fun l => if l.sameKey (pairL (k : Int) (i : Int)) = true then some (Value.string td) else f l) := ⟨_, MD0.out⟩
          have MD := hide hMD
          clear hMD MD0
          generalize (progT S (k : Int) (i : Int) td te).1 = SD at *
          generalize (fun l => if l.sameKey (pairL (k : Int) (i : Int)) = true then some (Value.string td) else f l) = fD at *
          go_loopw [117] (fun z W => ∃ k : Nat, k ≤ 4 ∧ z = .int .i64 k ∧ NandAt W P Q w0.heap.size G SD ∧ MapIs W Try.prog 63 bm (n + 1) cD fD ∧ Below w.heap.size w W) (fun z _ => 4 - (intOf z).toNat)
          case atStart => exact ⟨0, by omega, rfl, ND.out, MD.out, BD.out⟩
          case round =>
            obtain ⟨k1, hk1, rfl, hn, hm, hb⟩ := hrel
            have N1 := hide hn
            have M1 := hide hm
            have B1 := hide hb
            clear hn hm hb ND MD BD
            by_cases hlt1 : k1 < 4
            · have hd1 : decide ((k1 : Int) < 4) = true := decide_eq_true (by omega)
              go_wp2_with fail
              try simp only [hd1]
              go_loopw [120] (fun z W => ∃ i : Nat, i ≤ 4 ∧ z = .int .i64 i ∧ NandAt W P Q w0.heap.size G SD ∧ MapIs W Try.prog 63 bm (n + 1) cD fD ∧ Below w.heap.size w W) (fun z _ => 4 - (intOf z).toNat)
              case atStart => exact ⟨0, by omega, rfl, N1.out, M1.out, B1.out⟩
              case round =>
                obtain ⟨i1, hi1, rfl, hn, hm, hb⟩ := hrel
                have N2 := hide hn
                have M2 := hide hm
                have B2 := hide hb
                clear hn hm hb N1 M1 B1
                by_cases hlt2 : i1 < 4
                · have HR := read_any P Q w0.heap.size G SD (k1 : Int) (i1 : Int) wr N2.out
                  rw [OID.out.read hlt1 hlt2, OID.out.ask hlt1 hlt2] at HR
                  have HRD := hide HR
                  have HBS := hide (OID.out.beside hlt1 hlt2)
                  have HLK := KD.out k1 i1 hlt1 hlt2
                  clear HR
                  by_cases hpx : (i1 : Int) < (SD.blk k1).next
                  · rw [if_pos hpx] at HLK
                    generalize (SD.blk k1).pages.getD i1 pg0 = pg at *
                    obtain ⟨pd, pb⟩ := pg
                    dsimp only at *
                    have HLH := hide HLK
                    clear HLK
                    go_wp2_with fail
                    refine HRD.out.mono ?_
                    rintro e w3 ⟨rfl, hb⟩
                    have N3 := hide (N2.out.below hb)
                    have M3 := hide (M2.out.below hb)
                    have B3 := hide (B2.out.trans (hb.mono B2.out.size))
                    clear hb N2 M2 B2 HRD
                    have hlk := M3.out.look_ok KeyedP2 Try.underlying62 (zero_str _) (key_pair (wide_small hlt1) (wide_small hlt2)) (isKey_pair _ _)
                    rw [HLH.out] at hlk
                    simp only [Option.getD_some, Option.isSome_some] at hlk
                    rw [show pairV (k1 : Int) (i1 : Int) = .agg #[.int .i64 (k1 : Int), .int .i64 (i1 : Int)] from rfl] at hlk
                    have hpb := HBS.out
                    go_wp2_with fail
                    go_roundw
                    case rel => exact ⟨i1 + 1, by omega, by go_num, N3.out, M3.out, B3.out⟩
                    case measure => simp [intOf]; omega
                  · rw [if_neg hpx] at HLK
                    have HBL := (OID.out.blk k1 hlt1).blank i1 hlt2 (by omega)
                    rw [HBL] at HRD HBS
                    rw [show filledP 32 ffB = ((filledP 32 ffB).1, (filledP 32 ffB).2) from rfl] at HRD HBS
                    have HRP := hide (show ∀ W, Calls Try.prog 31 #[.string ⟨#[255]⟩, .int .i64 32] W fun e w' => e = .returned (.string (filledP 32 ffB).1) ∧ Below W.heap.size W w' from fun W => by
                      have h := Try.strings_Repeat ⟨#[255]⟩ 32 W (by omega) (by show 1 * 32 ≤ _; omega)
                      rw [← ff32]
                      exact h)
                    generalize (filledP 32 ffB).1 = pd at *
                    generalize (filledP 32 ffB).2 = pb at *
                    clear HBL
                    have HLH := hide HLK
                    clear HLK
                    go_wp2_with fail
                    refine HRD.out.mono ?_
                    rintro e w3 ⟨rfl, hb⟩
                    have N3 := hide (N2.out.below hb)
                    have M3 := hide (M2.out.below hb)
                    have B3 := hide (B2.out.trans (hb.mono B2.out.size))
                    clear hb N2 M2 B2 HRD
                    have hlk := M3.out.look_ok KeyedP2 Try.underlying62 (zero_str _) (key_pair (wide_small hlt1) (wide_small hlt2)) (isKey_pair _ _)
                    rw [HLH.out] at hlk
                    simp only [Option.getD_none, Option.isSome_none] at hlk
                    rw [show pairV (k1 : Int) (i1 : Int) = .agg #[.int .i64 (k1 : Int), .int .i64 (i1 : Int)] from rfl] at hlk
                    have hpb := HBS.out
                    go_wp2_with fail
                    refine (HRP.out _).mono ?_
                    rintro e w4 ⟨rfl, hb⟩
                    have N4 := hide (N3.out.below hb)
                    have M4 := hide (M3.out.below hb)
                    have B4 := hide (B3.out.trans (hb.mono B3.out.size))
                    clear hb N3 M3 B3
                    go_wp2_with fail
                    go_roundw
                    case rel => exact ⟨i1 + 1, by omega, by go_num, N4.out, M4.out, B4.out⟩
                    case measure => simp [intOf]; omega
                · obtain rfl : i1 = 4 := by omega
                  rw [show ((4 : Nat) : Int) = 4 from rfl]
                  go_wp2_with fail
                  go_roundw
                  case rel => exact ⟨k1 + 1, by omega, by go_num, N2.out, M2.out, B2.out⟩
                  case measure => simp [intOf]; omega
            · obtain rfl : k1 = 4 := by omega
              rw [show ((4 : Nat) : Int) = 4 from rfl]
              go_wp2_with fail
              go_roundw
              case rel => exact ⟨j + 1, SD, (n + 1), cD, fD, by omega, by have := HNJ.out; omega, by go_num, N1.out, OID.out, KD.out, M1.out, B1.out⟩
              case measure => simp [intOf]; omega
        · have HP := OI.out.order hk4 hi4 td te HZA.out HZB.out hnx
          rw [HP.1]
          have OID := hide HP.2.1
          have KD := hide (show KnownF (progT S (k : Int) (i : Int) td te).1 f from fun k' i' hk' hi' => by
            rw [KF.out k' i' hk' hi']
            unfold ChipM.blk
            rw [HP.2.2])
          have ND := N9
          have MD := M9
          have BD := B9
          clear N9 M9 B9 HP KF OI HLK
          generalize (progT S (k : Int) (i : Int) td te).1 = SD at *
          by_cases hwas : (i : Int) < (S.blk k).next
          · rw [if_pos hwas] at hlk
            simp only [Option.getD_some, Option.isSome_some] at hlk
            clear hwas hnx
            go_wp2_with fail
            clear hlk
            go_loopw [117] (fun z W => ∃ k : Nat, k ≤ 4 ∧ z = .int .i64 k ∧ NandAt W P Q w0.heap.size G SD ∧ MapIs W Try.prog 63 bm n c f ∧ Below w.heap.size w W) (fun z _ => 4 - (intOf z).toNat)
            case atStart => exact ⟨0, by omega, rfl, ND.out, MD.out, BD.out⟩
            case round =>
              obtain ⟨k1, hk1, rfl, hn, hm, hb⟩ := hrel
              have N1 := hide hn
              have M1 := hide hm
              have B1 := hide hb
              clear hn hm hb ND MD BD
              by_cases hlt1 : k1 < 4
              · have hd1 : decide ((k1 : Int) < 4) = true := decide_eq_true (by omega)
                go_wp2_with fail
                try simp only [hd1]
                go_loopw [120] (fun z W => ∃ i : Nat, i ≤ 4 ∧ z = .int .i64 i ∧ NandAt W P Q w0.heap.size G SD ∧ MapIs W Try.prog 63 bm n c f ∧ Below w.heap.size w W) (fun z _ => 4 - (intOf z).toNat)
                case atStart => exact ⟨0, by omega, rfl, N1.out, M1.out, B1.out⟩
                case round =>
                  obtain ⟨i1, hi1, rfl, hn, hm, hb⟩ := hrel
                  have N2 := hide hn
                  have M2 := hide hm
                  have B2 := hide hb
                  clear hn hm hb N1 M1 B1
                  by_cases hlt2 : i1 < 4
                  · have HR := read_any P Q w0.heap.size G SD (k1 : Int) (i1 : Int) wr N2.out
                    rw [OID.out.read hlt1 hlt2, OID.out.ask hlt1 hlt2] at HR
                    have HRD := hide HR
                    have HBS := hide (OID.out.beside hlt1 hlt2)
                    have HLK := KD.out k1 i1 hlt1 hlt2
                    clear HR
                    by_cases hpx : (i1 : Int) < (SD.blk k1).next
                    · rw [if_pos hpx] at HLK
                      generalize (SD.blk k1).pages.getD i1 pg0 = pg at *
                      obtain ⟨pd, pb⟩ := pg
                      dsimp only at *
                      have HLH := hide HLK
                      clear HLK
                      go_wp2_with fail
                      refine HRD.out.mono ?_
                      rintro e w3 ⟨rfl, hb⟩
                      have N3 := hide (N2.out.below hb)
                      have M3 := hide (M2.out.below hb)
                      have B3 := hide (B2.out.trans (hb.mono B2.out.size))
                      clear hb N2 M2 B2 HRD
                      have hlk := M3.out.look_ok KeyedP2 Try.underlying62 (zero_str _) (key_pair (wide_small hlt1) (wide_small hlt2)) (isKey_pair _ _)
                      rw [HLH.out] at hlk
                      simp only [Option.getD_some, Option.isSome_some] at hlk
                      rw [show pairV (k1 : Int) (i1 : Int) = .agg #[.int .i64 (k1 : Int), .int .i64 (i1 : Int)] from rfl] at hlk
                      have hpb := HBS.out
                      go_wp2_with fail
                      go_roundw
                      case rel => exact ⟨i1 + 1, by omega, by go_num, N3.out, M3.out, B3.out⟩
                      case measure => simp [intOf]; omega
                    · rw [if_neg hpx] at HLK
                      have HBL := (OID.out.blk k1 hlt1).blank i1 hlt2 (by omega)
                      rw [HBL] at HRD HBS
                      rw [show filledP 32 ffB = ((filledP 32 ffB).1, (filledP 32 ffB).2) from rfl] at HRD HBS
                      have HRP := hide (show ∀ W, Calls Try.prog 31 #[.string ⟨#[255]⟩, .int .i64 32] W fun e w' => e = .returned (.string (filledP 32 ffB).1) ∧ Below W.heap.size W w' from fun W => by
                        have h := Try.strings_Repeat ⟨#[255]⟩ 32 W (by omega) (by show 1 * 32 ≤ _; omega)
                        rw [← ff32]
                        exact h)
                      generalize (filledP 32 ffB).1 = pd at *
                      generalize (filledP 32 ffB).2 = pb at *
                      clear HBL
                      have HLH := hide HLK
                      clear HLK
                      go_wp2_with fail
                      refine HRD.out.mono ?_
                      rintro e w3 ⟨rfl, hb⟩
                      have N3 := hide (N2.out.below hb)
                      have M3 := hide (M2.out.below hb)
                      have B3 := hide (B2.out.trans (hb.mono B2.out.size))
                      clear hb N2 M2 B2 HRD
                      have hlk := M3.out.look_ok KeyedP2 Try.underlying62 (zero_str _) (key_pair (wide_small hlt1) (wide_small hlt2)) (isKey_pair _ _)
                      rw [HLH.out] at hlk
                      simp only [Option.getD_none, Option.isSome_none] at hlk
                      rw [show pairV (k1 : Int) (i1 : Int) = .agg #[.int .i64 (k1 : Int), .int .i64 (i1 : Int)] from rfl] at hlk
                      have hpb := HBS.out
                      go_wp2_with fail
                      refine (HRP.out _).mono ?_
                      rintro e w4 ⟨rfl, hb⟩
                      have N4 := hide (N3.out.below hb)
                      have M4 := hide (M3.out.below hb)
                      have B4 := hide (B3.out.trans (hb.mono B3.out.size))
                      clear hb N3 M3 B3
                      go_wp2_with fail
                      go_roundw
                      case rel => exact ⟨i1 + 1, by omega, by go_num, N4.out, M4.out, B4.out⟩
                      case measure => simp [intOf]; omega
                  · obtain rfl : i1 = 4 := by omega
                    rw [show ((4 : Nat) : Int) = 4 from rfl]
                    go_wp2_with fail
                    go_roundw
                    case rel => exact ⟨k1 + 1, by omega, by go_num, N2.out, M2.out, B2.out⟩
                    case measure => simp [intOf]; omega
              · obtain rfl : k1 = 4 := by omega
                rw [show ((4 : Nat) : Int) = 4 from rfl]
                go_wp2_with fail
                go_roundw
                case rel => exact ⟨j + 1, SD, n, c, f, by omega, by have := HNJ.out; omega, by go_num, N1.out, OID.out, KD.out, M1.out, B1.out⟩
                case measure => simp [intOf]; omega
          · rw [if_neg hwas] at hlk
            simp only [Option.getD_none, Option.isSome_none] at hlk
            clear hwas hnx
            go_wp2_with fail
            clear hlk
            go_loopw [117] (fun z W => ∃ k : Nat, k ≤ 4 ∧ z = .int .i64 k ∧ NandAt W P Q w0.heap.size G SD ∧ MapIs W Try.prog 63 bm n c f ∧ Below w.heap.size w W) (fun z _ => 4 - (intOf z).toNat)
            case atStart => exact ⟨0, by omega, rfl, ND.out, MD.out, BD.out⟩
            case round =>
              obtain ⟨k1, hk1, rfl, hn, hm, hb⟩ := hrel
              have N1 := hide hn
              have M1 := hide hm
              have B1 := hide hb
              clear hn hm hb ND MD BD
              by_cases hlt1 : k1 < 4
              · have hd1 : decide ((k1 : Int) < 4) = true := decide_eq_true (by omega)
                go_wp2_with fail
                try simp only [hd1]
                go_loopw [120] (fun z W => ∃ i : Nat, i ≤ 4 ∧ z = .int .i64 i ∧ NandAt W P Q w0.heap.size G SD ∧ MapIs W Try.prog 63 bm n c f ∧ Below w.heap.size w W) (fun z _ => 4 - (intOf z).toNat)
                case atStart => exact ⟨0, by omega, rfl, N1.out, M1.out, B1.out⟩
                case round =>
                  obtain ⟨i1, hi1, rfl, hn, hm, hb⟩ := hrel
                  have N2 := hide hn
                  have M2 := hide hm
                  have B2 := hide hb
                  clear hn hm hb N1 M1 B1
                  by_cases hlt2 : i1 < 4
                  · have HR := read_any P Q w0.heap.size G SD (k1 : Int) (i1 : Int) wr N2.out
                    rw [OID.out.read hlt1 hlt2, OID.out.ask hlt1 hlt2] at HR
                    have HRD := hide HR
                    have HBS := hide (OID.out.beside hlt1 hlt2)
                    have HLK := KD.out k1 i1 hlt1 hlt2
                    clear HR
                    by_cases hpx : (i1 : Int) < (SD.blk k1).next
                    · rw [if_pos hpx] at HLK
                      generalize (SD.blk k1).pages.getD i1 pg0 = pg at *
                      obtain ⟨pd, pb⟩ := pg
                      dsimp only at *
                      have HLH := hide HLK
                      clear HLK
                      go_wp2_with fail
                      refine HRD.out.mono ?_
                      rintro e w3 ⟨rfl, hb⟩
                      have N3 := hide (N2.out.below hb)
                      have M3 := hide (M2.out.below hb)
                      have B3 := hide (B2.out.trans (hb.mono B2.out.size))
                      clear hb N2 M2 B2 HRD
                      have hlk := M3.out.look_ok KeyedP2 Try.underlying62 (zero_str _) (key_pair (wide_small hlt1) (wide_small hlt2)) (isKey_pair _ _)
                      rw [HLH.out] at hlk
                      simp only [Option.getD_some, Option.isSome_some] at hlk
                      rw [show pairV (k1 : Int) (i1 : Int) = .agg #[.int .i64 (k1 : Int), .int .i64 (i1 : Int)] from rfl] at hlk
                      have hpb := HBS.out
                      go_wp2_with fail
                      go_roundw
                      case rel => exact ⟨i1 + 1, by omega, by go_num, N3.out, M3.out, B3.out⟩
                      case measure => simp [intOf]; omega
                    · rw [if_neg hpx] at HLK
                      have HBL := (OID.out.blk k1 hlt1).blank i1 hlt2 (by omega)
                      rw [HBL] at HRD HBS
                      rw [show filledP 32 ffB = ((filledP 32 ffB).1, (filledP 32 ffB).2) from rfl] at HRD HBS
                      have HRP := hide (show ∀ W, Calls Try.prog 31 #[.string ⟨#[255]⟩, .int .i64 32] W fun e w' => e = .returned (.string (filledP 32 ffB).1) ∧ Below W.heap.size W w' from fun W => by
                        have h := Try.strings_Repeat ⟨#[255]⟩ 32 W (by omega) (by show 1 * 32 ≤ _; omega)
                        rw [← ff32]
                        exact h)
                      generalize (filledP 32 ffB).1 = pd at *
                      generalize (filledP 32 ffB).2 = pb at *
                      clear HBL
                      have HLH := hide HLK
                      clear HLK
                      go_wp2_with fail
                      refine HRD.out.mono ?_
                      rintro e w3 ⟨rfl, hb⟩
                      have N3 := hide (N2.out.below hb)
                      have M3 := hide (M2.out.below hb)
                      have B3 := hide (B2.out.trans (hb.mono B2.out.size))
                      clear hb N2 M2 B2 HRD
                      have hlk := M3.out.look_ok KeyedP2 Try.underlying62 (zero_str _) (key_pair (wide_small hlt1) (wide_small hlt2)) (isKey_pair _ _)
                      rw [HLH.out] at hlk
                      simp only [Option.getD_none, Option.isSome_none] at hlk
                      rw [show pairV (k1 : Int) (i1 : Int) = .agg #[.int .i64 (k1 : Int), .int .i64 (i1 : Int)] from rfl] at hlk
                      have hpb := HBS.out
                      go_wp2_with fail
                      refine (HRP.out _).mono ?_
                      rintro e w4 ⟨rfl, hb⟩
                      have N4 := hide (N3.out.below hb)
                      have M4 := hide (M3.out.below hb)
                      have B4 := hide (B3.out.trans (hb.mono B3.out.size))
                      clear hb N3 M3 B3
                      go_wp2_with fail
                      go_roundw
                      case rel => exact ⟨i1 + 1, by omega, by go_num, N4.out, M4.out, B4.out⟩
                      case measure => simp [intOf]; omega
                  · obtain rfl : i1 = 4 := by omega
                    rw [show ((4 : Nat) : Int) = 4 from rfl]
                    go_wp2_with fail
                    go_roundw
                    case rel => exact ⟨k1 + 1, by omega, by go_num, N2.out, M2.out, B2.out⟩
                    case measure => simp [intOf]; omega
              · obtain rfl : k1 = 4 := by omega
                rw [show ((4 : Nat) : Int) = 4 from rfl]
                go_wp2_with fail
                go_roundw
                case rel => exact ⟨j + 1, SD, n, c, f, by omega, by have := HNJ.out; omega, by go_num, N1.out, OID.out, KD.out, M1.out, B1.out⟩
                case measure => simp [intOf]; omega
    · obtain rfl : j = m := by omega
      go_wp2_with fail
      go_ret
      exact ⟨rfl, B4.out⟩

set_option maxRecDepth 100000 in
theorem nandOnce_lifted (os : Os) (started : os.Started) (H : Type) (enc : TypeId × Value → H) :
    ReturnsInHanded {} Try.checked os 5 .any (Rows.nandOnceSpec.pre6 enc Try.prog Try.f5 Rows.nandOnceRow.domain false) (Rows.nandOnceSpec.post enc Try.prog Try.f5 false true false false) := by
  refine returnsInHanded_of_change (C := Try.checked) own started (by kernel_rfl) Try.func5
    (ChangeSpec.witness6 (enc := enc) (C := Try.checked) false ⟨#[], #[.slice none 0 0], []⟩ 8 (by kernel_rfl) (by kernel_rfl) (by kernel_rfl) (by kernel_rfl)) ?_
  intro W base args ds gs before hval0 hW _ _
  have hval : ∀ (j : Nat) t v, Try.f5.params[j]? = some t → args[j]? = some v → Value.okWide Try.prog W .any base t v := hval0
  have hW' := hW
  obtain ⟨p, q, hA0, hV, rfl, hfz, hnd⟩ := hW
  have hA : DataW.TrodAll enc Try.prog W 0 (fun _ => true) true Try.f5.params.toList args.toList ds p := hA0
  rw [Try.params5] at hA hval
  obtain ⟨v0, vs0, d0, ds0, p0, q0, hargs, rfl, rfl, h0, r0⟩ := trodAll_cons hA
  obtain ⟨rfl, rfl, rfl⟩ := trodAll_nil r0
  obtain rfl : args = #[v0] := by cases args; simp_all
  obtain ⟨rfl, rfl⟩ := trodVars_none hV
  obtain ⟨a, L, cap, rfl, hc, h63, hin, hok⟩ := open_acts (hval 0 24 v0 rfl rfl) h0
  clear hA0 hval0
  refine (nandOnce_walk a L cap hc h63 W hin hok).mono fun e W' ⟨he, hb⟩ => ?_
  subst he
  exact ⟨_, rfl, post_law laidOut (of_decide_eq_true (by kernel_rfl)) rfl rfl Try.underlying4 hW' ⟨rfl, rfl, rfl⟩ hb⟩

/-- THE STATEMENT -/
theorem nandOnce_holds : Rows.NandOnceSaid :=
  OpenClaim.holds_of_wide 5 Try.f5 rfl rfl rfl rfl rfl rfl rfl ⟨rfl, rfl, rfl, rfl, rfl⟩ rfl rfl rfl rfl rfl (by kernel_rfl) Try.func5 (by kernel_rfl)
    (of_decide_eq_true (by kernel_rfl)) (by unfold Func.isWrapper; first | (rw [if_pos (by decide +kernel)]; kernel_rfl) | (rw [if_neg (by decide +kernel)]; exact ⟨rfl, rfl⟩))
    (fun os started H enc _ => nandOnce_lifted os started H enc)


end Go.Proofs.Ythippbckjldijaa
