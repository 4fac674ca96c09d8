/-
  Layer 9, the program's calls: Parse by contract, where the form is wrong.
-/
import Derived.Test.YtfphkldpjfackaaBbt5
namespace Go.Proofs.Ytfphkldpjfackaa
set_option linter.unusedSimpArgs false
set_option linter.unusedVariables false
open Go.RowKit Go.WideShapes Go.ChangeShapes Go.ChangeAt

theorem zeros_count (l : List UInt8) (h : Lib.countByte l 0 = l.length) : ∀ c ∈ l, c = 0 := by
  unfold Lib.countByte at h
  intro c hc
  exact (List.count_eq_length.1 h c hc).symm
theorem count_le (l : List UInt8) : Lib.countByte l 0 ≤ l.length := by unfold Lib.countByte; exact List.count_le_length
set_option maxRecDepth 100000 in
set_option maxHeartbeats 400000 in
theorem parse_short (s : List UInt8) (hs : s.length ≤ 100000) (m : Nat) (hm1 : 1 ≤ m) (hm : m ≤ 256) (hf : s.length < 8 + nbN m) (w : World) :
    Calls Try.prog 13 #[.string (bs s), .int .i64 (m : Int)] w fun e w' => e = .returned (.tuple #[.agg (bbtC 0 0 zeros32), .int .i64 4]) ∧ Below w.heap.size w w' := by
  have hnb : nbN m ≤ 32 := by unfold nbN; omega
  have hnb1 : 1 ≤ nbN m := by unfold nbN; omega
  have HMAY := hide (fun W => may_any (m : Int) W)
  rw [decide_eq_true (show 1 ≤ (m : Int) ∧ (m : Int) ≤ 256 by omega)] at HMAY
  have HBY := hide (fun W => bytes_any m (by omega) W)
  change Hid (∀ W, Calls Try.prog 20 #[.int .i64 (m : Int)] W fun e w' => e = .returned (.int .i64 ((nbN m : Nat) : Int)) ∧ W = w') at HBY
  have HRES := hide (fun (tmps : Array Value) (W : World) (A : Nat) (x : Value) => res_bbt (fn := Try.f13) Try.results13 tmps W A 0 0 zeros32 zeros_len x)
  have HIZ := hide (bbt_info 0 0 zeros32 zeros_len)
  have HOZ := hide (bbtC_one 0 0 zeros32)
  have HB0Z := hide (fun W => build_T0 W)
  have HAZ := hide (fun W => alloc_T W)
  have hss := bs_size s
  have hlt : (s.length : Int) < 8 + (nbN m : Int) := by omega
  generalize bbtC 0 0 zeros32 = Z at *
  have HB0 := hide ((Below.refl w.heap.size w).alloc (Nat.le_refl _) (.cells Z 26))
  have HR0 := hide (heap_new w (.cells Z 26))
  go_enter Try.func13, Try.ntmps13
  go_wp2_with (first | ((with_reducible show wpList _ _ _ _ _ w); refine wpList_alloc0 w rfl 26 rfl (.pointer (some ⟨w.heap.size, 0, none⟩)) (w.alloc (.cells Z 26)) (HAZ.out w) ?_))
  refine (HMAY.out _).mono ?_
  rintro e w1 ⟨rfl, rfl⟩
  go_wp2_with fail
  refine (HBY.out _).mono ?_
  rintro e w1 ⟨rfl, rfl⟩
  go_wp2_with (first | ((with_reducible show wpList _ _ _ _ _ (w.alloc (.cells Z 26))); refine wpList_build0 (w.alloc (.cells Z 26)) rfl 26 rfl (.agg Z) (HB0Z.out _) ?_) | ((with_reducible show wpList _ _ _ _ _ (w.alloc (.cells Z 26))); refine wpList_storeR rfl 26 (.tmp 4) (.tmp 31) rfl w.heap.size rfl Z rfl Z HR0.out HIZ.out rfl HOZ.out ?_))
  exact bodyPost_ret (HRES.out _ _ w.heap.size _ rfl rfl (setRow_heap _ _ _ _ _ _ HR0.out)) rfl ⟨rfl, setRow_below HB0.out (Nat.le_refl _) _⟩
set_option maxRecDepth 100000 in
set_option maxHeartbeats 400000 in
theorem parse_tail (s : List UInt8) (hs : s.length ≤ 100000) (m : Nat) (hm1 : 1 ≤ m) (hm : m ≤ 256) (hf1 : 8 + nbN m ≤ s.length) (hf : ¬ ∀ c ∈ s.drop (8 + nbN m), c = 0) (w : World) :
    Calls Try.prog 13 #[.string (bs s), .int .i64 (m : Int)] w fun e w' => e = .returned (.tuple #[.agg (bbtC 0 0 zeros32), .int .i64 4]) ∧ Below w.heap.size w w' := by
  have hnb : nbN m ≤ 32 := by unfold nbN; omega
  have hnb1 : 1 ≤ nbN m := by unfold nbN; omega
  have HMAY := hide (fun W => may_any (m : Int) W)
  rw [decide_eq_true (show 1 ≤ (m : Int) ∧ (m : Int) ≤ 256 by omega)] at HMAY
  have HBY := hide (fun W => bytes_any m (by omega) W)
  change Hid (∀ W, Calls Try.prog 20 #[.int .i64 (m : Int)] W fun e w' => e = .returned (.int .i64 ((nbN m : Nat) : Int)) ∧ W = w') at HBY
  have HRES := hide (fun (tmps : Array Value) (W : World) (A : Nat) (x : Value) => res_bbt (fn := Try.f13) Try.results13 tmps W A 0 0 zeros32 zeros_len x)
  have HIZ := hide (bbt_info 0 0 zeros32 zeros_len)
  have HOZ := hide (bbtC_one 0 0 zeros32)
  have HB0Z := hide (fun W => build_T0 W)
  have HAZ := hide (fun W => alloc_T W)
  have HCNT := hide (fun W => Try.strings_Count_one (bs (s.drop (8 + nbN m))) 0 W)
  have hcz : Lib.countByte (s.drop (8 + nbN m)) 0 ≠ s.length - (8 + nbN m) := fun h => hf (zeros_count _ (by rw [h, List.length_drop]))
  rw [bs_toList] at HCNT
  generalize Lib.countByte (s.drop (8 + nbN m)) 0 = cnt at *
  have hss := bs_size s
  have e2 : (bs s).extract (8 + nbN m) s.length = bs (s.drop (8 + nbN m)) := bs_from s _ _ rfl
  have hlt : ¬ (s.length : Int) < 8 + (nbN m : Int) := by omega
  have hsub : (s.length : Int) - (8 + (nbN m : Int)) = ((s.length - (8 + nbN m) : Nat) : Int) := by omega
  have hcn : ((cnt : Int) == ((s.length - (8 + nbN m) : Nat) : Int)) = false := by rw [beq_eq_false_iff_ne]; omega
  clear hf hcz
  generalize bbtC 0 0 zeros32 = Z at *
  have HB0 := hide ((Below.refl w.heap.size w).alloc (Nat.le_refl _) (.cells Z 26))
  have HR0 := hide (heap_new w (.cells Z 26))
  go_enter Try.func13, Try.ntmps13
  go_wp2_with (first | ((with_reducible show wpList _ _ _ _ _ w); refine wpList_alloc0 w rfl 26 rfl (.pointer (some ⟨w.heap.size, 0, none⟩)) (w.alloc (.cells Z 26)) (HAZ.out w) ?_))
  refine (HMAY.out _).mono ?_
  rintro e w1 ⟨rfl, rfl⟩
  go_wp2_with fail
  refine (HBY.out _).mono ?_
  rintro e w1 ⟨rfl, rfl⟩
  go_wp2_with fail
  refine (HCNT.out _).mono ?_
  rintro e w1 ⟨rfl, rfl⟩
  go_wp2_with (first | ((with_reducible show wpList _ _ _ _ _ (w.alloc (.cells Z 26))); refine wpList_build0 (w.alloc (.cells Z 26)) rfl 26 rfl (.agg Z) (HB0Z.out _) ?_) | ((with_reducible show wpList _ _ _ _ _ (w.alloc (.cells Z 26))); refine wpList_storeR rfl 26 (.tmp 4) (.tmp 31) rfl w.heap.size rfl Z rfl Z HR0.out HIZ.out rfl HOZ.out ?_))
  · exact bodyPost_ret (HRES.out _ _ w.heap.size _ rfl rfl (setRow_heap _ _ _ _ _ _ HR0.out)) rfl ⟨rfl, setRow_below HB0.out (Nat.le_refl _) _⟩
  · exfalso
    rename _ ∧ _ = false => hh
    rw [bne, hcn] at hh
    exact absurd hh.2 (by decide)
set_option maxRecDepth 100000 in
set_option maxHeartbeats 400000 in
theorem parse_beyond (s : List UInt8) (hs : s.length ≤ 100000) (m : Nat) (hm1 : 1 ≤ m) (hm : m ≤ 256) (hf1 : 8 + nbN m ≤ s.length) (hf2 : ∀ c ∈ s.drop (8 + nbN m), c = 0) (hf3 : ¬ ((bitsP s m).getD (nbN m - 1) 0).toNat &&& beyondU m = 0) (w : World) :
    Calls Try.prog 13 #[.string (bs s), .int .i64 (m : Int)] w fun e w' => e = .returned (.tuple #[.agg (bbtC 0 0 zeros32), .int .i64 4]) ∧ Below w.heap.size w w' := by
  have hnb : nbN m ≤ 32 := by unfold nbN; omega
  have hnb1 : 1 ≤ nbN m := by unfold nbN; omega
  have HMAY := hide (fun W => may_any (m : Int) W)
  rw [decide_eq_true (show 1 ≤ (m : Int) ∧ (m : Int) ≤ 256 by omega)] at HMAY
  have HBY := hide (fun W => bytes_any m (by omega) W)
  change Hid (∀ W, Calls Try.prog 20 #[.int .i64 (m : Int)] W fun e w' => e = .returned (.int .i64 ((nbN m : Nat) : Int)) ∧ W = w') at HBY
  have HCNT := hide (fun W => Try.strings_Count_one (bs (s.drop (8 + nbN m))) 0 W)
  have hcz := count_zeros _ hf2
  rw [bs_toList, hcz, List.length_drop] at HCNT
  have HGET := hide (fun W => get_any (bs (s.take 8)) (by rw [bs_size, List.length_take]; omega) W)
  rw [bs_toList, last8_short (by rw [List.length_take]; omega)] at HGET
  have hgl := getN_lt (s.take 8)
  have hss := bs_size s
  have e1 : (bs s).extract 0 8 = bs (s.take 8) := bs_to s 8
  have e2 : (bs s).extract (8 + nbN m) s.length = bs (s.drop (8 + nbN m)) := bs_from s _ _ rfl
  have e3 : (bs s).extract 8 (8 + nbN m) = bs ((s.drop 8).take (nbN m)) := by rw [bs_extract]; congr 2; omega
  have hlt : ¬ (s.length : Int) < 8 + (nbN m : Int) := by omega
  have hsub : (s.length : Int) - (8 + (nbN m : Int)) = ((s.length - (8 + nbN m) : Nat) : Int) := by omega
  have hbz := hf3
  have HX := hide (bbtC_at (getN (s.take 8) : Int) m (bitsP s m) (nbN m - 1) (by rw [bitsP_length s m hm hf1]; omega))
  have HAND := hide (show (bits .and .u8 (((bitsP s m).getD (nbN m - 1) 0).toNat : Int) (beyondU m : Int) == 0) = false by
    have hx := ((bitsP s m).getD (nbN m - 1) 0).toNat_lt
    have hb : beyondU m ≤ 255 := Nat.div_le_self _ _
    have h := (bits_nat .u8 8 (by decide) wraps_u8 ((bitsP s m).getD (nbN m - 1) 0).toNat (beyondU m) (by omega) (by omega)).1
    rw [h, beq_eq_false_iff_ne]
    omega)
  have HRES := hide (fun (tmps : Array Value) (W : World) (A : Nat) (x : Value) => res_bbt (fn := Try.f13) Try.results13 tmps W A 0 0 zeros32 zeros_len x)
  have HIZ := hide (bbt_info 0 0 zeros32 zeros_len)
  have HOZ := hide (bbtC_one 0 0 zeros32)
  have HB0Z := hide (fun W => build_T0 W)
  have HIE := hide (bbt_info (getN (s.take 8) : Int) m zeros32 zeros_len)
  have HIF := hide (bbt_info (getN (s.take 8) : Int) m (bitsP s m) (bitsP_length s m hm hf1))
  have HSE := hide (bbt_sizes 0 0 (getN (s.take 8) : Int) m zeros32 zeros32 zeros_len zeros_len)
  have HSF := hide (bbt_sizes 0 0 (getN (s.take 8) : Int) m zeros32 (bitsP s m) zeros_len (bitsP_length s m hm hf1))
  have HOE := hide (bbtC_one (getN (s.take 8) : Int) m zeros32)
  have HOF := hide (bbtC_one (getN (s.take 8) : Int) m (bitsP s m))
  have HBE := hide (fun W => build_T2 (getN (s.take 8) : Int) m W)
  have HAZ := hide (fun W => alloc_T W)
  have HCP := hide (fun (W : World) (B : Nat) (hB : W.heap[B]? = some (.cells (bbtC (getN (s.take 8) : Int) m zeros32) 26 (0, 0))) (ty : TypeId) => copy_bits W B (getN (s.take 8) : Int) m s m hm hf1 hB ty)
  have hbU : (beyondU m : Int) ≤ 255 := by have : beyondU m ≤ 255 := Nat.div_le_self _ _; omega
  have HBU := hide (show (255 : Int) / 2 ^ (1 + (m - 1) % 8) = ((beyondU m : Nat) : Int) by unfold beyondU; push_cast; rfl)
  clear hf2 hf3 hbz hcz hgl
  generalize ((bitsP s m).getD (nbN m - 1) 0).toNat = xv at *
  generalize beyondU m = bu at *
  generalize bbtC (getN (s.take 8) : Int) m (bitsP s m) = F at *
  generalize bbtC (getN (s.take 8) : Int) m zeros32 = E at *
  generalize bbtC 0 0 zeros32 = Z at *
  generalize getN (s.take 8) = vv at *
  obtain ⟨nb, hnbe⟩ : ∃ nb, nb = nbN m := ⟨_, rfl⟩
  rw [← hnbe] at *
  have HB0 := hide ((Below.refl w.heap.size w).alloc (Nat.le_refl _) (.cells Z 26))
  have HR0 := hide (heap_new w (.cells Z 26))
  go_enter Try.func13, Try.ntmps13
  go_wp2_with (first | ((with_reducible show wpList _ _ _ _ _ w); refine wpList_alloc0 w rfl 26 rfl (.pointer (some ⟨w.heap.size, 0, none⟩)) (w.alloc (.cells Z 26)) (HAZ.out w) ?_))
  refine (HMAY.out _).mono ?_
  rintro e w1 ⟨rfl, rfl⟩
  go_wp2_with fail
  refine (HBY.out _).mono ?_
  rintro e w1 ⟨rfl, rfl⟩
  go_wp2_with fail
  refine (HCNT.out _).mono ?_
  rintro e w1 ⟨rfl, rfl⟩
  go_wp2_with fail
  refine (HGET.out _).mono ?_
  rintro e w2 ⟨rfl, hb2⟩
  have hsz1 : (w.alloc (.cells Z 26)).heap.size = w.heap.size + 1 := by show (w.heap.push _).size = _; simp
  have HA2 := hide ((hb2.block _ (by rw [hsz1]; omega)).trans HR0.out)
  have HB2 := hide (below_trans HB0.out hb2)
  have HSZ2 := hide (Nat.lt_of_lt_of_le (show w.heap.size < (w.alloc (.cells Z 26)).heap.size by rw [hsz1]; omega) hb2.size)
  clear hb2 hsz1
  have HN2 := hide (heap_new w2 (.cells Z 26))
  go_wp2_with (first | ((with_reducible show wpList _ _ _ _ _ w2); refine wpList_build2 w2 rfl 26 (.tmp 34) (.tmp 35) 0 1 rfl (.int .u64 (vv : Int)) (.int .i64 (m : Int)) rfl rfl (.agg E) (HBE.out _) ?_) | ((with_reducible show wpList _ _ _ _ _ w2); refine wpList_alloc0 w2 rfl 26 rfl (.pointer (some ⟨w2.heap.size, 0, none⟩)) (w2.alloc (.cells Z 26)) (HAZ.out w2) ?_) | (refine wpList_storeR rfl 26 (.tmp 7) (.tmp 36) rfl w2.heap.size rfl E rfl Z HN2.out HIE.out HSE.out HOE.out ?_))
  have HA3 := hide ((setRow_other (w2.alloc (.cells Z 26)) w2.heap.size w.heap.size E (by have := HSZ2.out; omega)).trans ((heap_old w2 (.cells Z 26) _ HSZ2.out).trans HA2.out))
  have HN3 := hide (setRow_heap (w2.alloc (.cells Z 26)) w2.heap.size Z E 26 (0, 0) HN2.out)
  have HB3 := hide (setRow_below (HB2.out.alloc HB2.out.size (.cells Z 26)) (g := w2.heap.size) HB2.out.size E)
  have hbl := HB2.out.size
  have hne : ¬ w2.heap.size = w.heap.size := by have := HSZ2.out; omega
  generalize (w2.alloc (.cells Z 26)).setRow w2.heap.size E = w3 at *
  generalize w2.heap.size = B at *
  have hcp := HCP.out w3.drew B HN3.out
  have bl2 := heap_lt HN3.out
  have h8 : (8 : Int) ≤ 8 + (nbN m : Int) := by omega
  have htn : (8 + (nbN m : Int)).toNat = 8 + nbN m := by omega
  clear HCNT HGET HBE HN2 HA2 HB2 HSZ2 HB0 HR0 HOE HSE HIE
  go_region
  go_wp2_with fail
  rw [HBU.out]
  have HA4 := hide ((setRow_other w3.drew B w.heap.size F (Ne.symm hne)).trans HA3.out)
  have HN4 := hide (setRow_heap w3.drew B E F 26 (0, 0) HN3.out)
  have HB4 := hide (setRow_below HB3.out.drew hbl F)
  clear hcp bl2 HA3 HN3 HB3 HCP
  generalize w3.drew.setRow B F = w4 at *
  refine (HBY.out _).mono ?_
  rintro e w1 ⟨rfl, rfl⟩
  have hx := (cell_of_block HN4.out (2 + (nbN m - 1))).trans HX.out
  have bl4 := heap_lt HN4.out
  have hand := HAND.out
  have htn1 : ((nbN m : Int) - 1).toNat = nbN m - 1 := by omega
  have hn0 : (0 : Int) ≤ (nbN m : Int) - 1 := by omega
  have hn1 : (nbN m : Int) - 1 < 32 := by omega
  clear HBY HX
  go_wp2_with (first | ((with_reducible show wpList _ _ _ _ _ w4); refine wpList_build0 w4 rfl 26 rfl (.agg Z) (HB0Z.out _) ?_) | ((with_reducible show wpList _ _ _ _ _ w4); refine wpList_storeR rfl 26 (.tmp 4) (.tmp 57) rfl w.heap.size rfl Z rfl Z HA4.out HIZ.out rfl HOZ.out ?_))
  exact bodyPost_ret (HRES.out _ _ w.heap.size _ rfl rfl (setRow_heap _ _ _ _ _ _ HA4.out)) rfl ⟨rfl, setRow_below HB4.out (Nat.le_refl _) _⟩
theorem parse_form (s : List UInt8) (hs : s.length ≤ 100000) (m : Nat) (hm1 : 1 ≤ m) (hm : m ≤ 256) (hf : ¬ FormOk s m) (w : World) :
    Calls Try.prog 13 #[.string (bs s), .int .i64 (m : Int)] w fun e w' => e = .returned (.tuple #[.agg (bbtC 0 0 zeros32), .int .i64 4]) ∧ Below w.heap.size w w' := by
  by_cases h1 : 8 + nbN m ≤ s.length
  · by_cases h2 : ∀ c ∈ s.drop (8 + nbN m), c = 0
    · exact parse_beyond s hs m hm1 hm h1 h2 (fun h3 => hf ⟨h1, h2, h3⟩) w
    · exact parse_tail s hs m hm1 hm h1 h2 w
  · exact parse_short s hs m hm1 hm (by omega) w
end Go.Proofs.Ytfphkldpjfackaa
