/-
  Layer 25: the document's Read.
-/
import Derived.Test.YtbnbfnlfgmlcgaaRSale3
--import Derived.Test.Zdbg
namespace Go.Proofs.Ytbnbfnlfgmlcgaa
set_option linter.unusedSimpArgs false
set_option linter.unusedVariables false
open Go.RowKit Go.WideShapes Go.ChangeShapes Go.ChangeAt Go.Deep
theorem res_ctt {P : Program} {fn : Func} {p u t : Tmp} {ty : TypeId} (h : fn.results = #[.cell p ty, .tmp u, .tmp t]) (tmps : Array Value) (w : World) (g : Nat) (ty2 : TypeId) (cs : Array Value) (fr : Nat × Nat) (d : TypeDesc)
    (hp : tmps.getD p undef = .pointer (some ⟨g, 0, none⟩)) (hg : w.heap[g]? = some (.cells cs ty2 fr)) (hu : P.underlying ty = some d) (hd : (match d with | .struct _ | .array _ _ => true | _ => false) = true) (hi : (P.info? ty).map (·.size) = some cs.size) :
    (results fn tmps).run P w = .ok (.tuple #[.agg cs, tmps.getD u undef, tmps.getD t undef]) w := by
  have hp' : tmps[p]?.getD undef = .pointer (some ⟨g, 0, none⟩) := by simpa using hp
  simp [results, h, hp', asAddr, run_loadVar_row w g ty2 ty cs fr d hg hu hd hi]
theorem owns_base0 {w : World} {B B' e m n : Nat} {v : Value} {xs : List Value} (h : w.ownsRow B e m v n xs) (hB : B' ≤ B) : w.ownsRow B' e m v n xs := by
  refine ⟨h.1, ?_⟩
  rcases h.2 with h3 | ⟨g, cap', cur, hv, hb, h4⟩
  · exact .inl h3
  · exact .inr ⟨g, cap', cur, hv, Nat.le_trans hB hb, h4⟩
/-- how many bytes a register's transactions have -/
theorem txRest_len {l : List UInt8} (h : txG l = true) : (txRest l).length + (27 + 10 * ((l.drop 26).getD 0 0).toNat) = l.length := by
  obtain ⟨h1, -, h3, -⟩ := txG_parts h
  unfold poOk at h3
  simp only [Bool.and_eq_true, decide_eq_true_eq, List.length_drop] at h3
  unfold txRest
  rw [List.length_drop]
  omega
def RRdIs (kp : Int) (t : List UInt8) (w : World) (e : Ending) (w' : World) : Prop :=
  ((regR kp t = none ∧ e = .returned (.tuple #[regV 0 0 none 0 0, .int .i64 0, .int .i64 4])) ∨ ∃ (T : List TxA) (rest : List UInt8) (a : Option Addr) (cp : Nat), regR kp t = some (T.map (·.t), rest) ∧ e = .returned (.tuple #[regV kp (hdX t : Int) a T.length cp, .int .i64 ((t.length : Int) - (rest.length : Int)), .int .i64 0]) ∧ RegD w' a cp T) ∧ Below w.heap.size w w'
set_option maxRecDepth 100000 in
theorem rrread_arg (kp : Int) (hkp : ¬ (1 ≤ kp ∧ kp ≤ 512)) (t : ByteArray) (w : World) :
    Calls Try.prog 12 #[.string t, .int .i64 kp] w fun e w' => e = .returned (.tuple #[regV 0 0 none 0 0, .int .i64 0, .int .i64 2]) ∧ Below w.heap.size w w' := by
  go_enter Try.func12, Try.ntmps12
  go_upto_region 1 with (fail)
  have XR1 := hide (heap_new w (.cells #[.int .i64 0, .int .i64 0, .slice none 0 0] 27))
  have B1 := hide ((Below.refl w.heap.size w).alloc (Nat.le_refl _) (.cells #[.int .i64 0, .int .i64 0, .slice none 0 0] 27))
  generalize w.alloc (.cells #[.int .i64 0, .int .i64 0, .slice none 0 0] 27) = w1 at *
  obtain ⟨rb, hrb⟩ : ∃ k, w.heap.size = k := ⟨_, rfl⟩
  have HRB := hide (show w.heap.size ≤ rb from by omega)
  rw [hrb] at XR1 ⊢
  clear hrb
  go_upto_region 2 with (refine rw_store rfl 27 (.tmp 7) (.tmp 16) rfl w1.heap.size rfl #[.int .i64 0, .int .i64 0, .slice none 0 0] rfl _ (heap_new w1 _) (by kernel_rfl) rfl (by simp [Value.oneCell']) ?_)
  have XN2 := hide (setRow_same (cs := (#[.int .i64 0, .int .i64 0, .slice none 0 0] : Array Value)) (heap_new w1 (.cells #[.int .i64 0, .int .i64 0, .slice none 0 0] 27)))
  have hal := (Below.refl w1.heap.size w1).alloc (Nat.le_refl _) (.cells #[.int .i64 0, .int .i64 0, .slice none 0 0] 27)
  have HNR := hide (show w1.heap.size ≠ rb from by have := heap_lt XR1.out; omega)
  have XR2 := hide ((setRow_diff HNR.out (cs := (#[.int .i64 0, .int .i64 0, .slice none 0 0] : Array Value))).trans ((hal.block _ (heap_lt XR1.out)).trans XR1.out))
  have B2 := hide (setRow_below (B1.out.trans (hal.mono B1.out.size)) B1.out.size (B1.out.trans (hal.mono B1.out.size)).size (#[.int .i64 0, .int .i64 0, .slice none 0 0] : Array Value))
  clear hal
  generalize (w1.alloc (.cells #[.int .i64 0, .int .i64 0, .slice none 0 0] 27)).setRow w1.heap.size (#[.int .i64 0, .int .i64 0, .slice none 0 0] : Array Value) = w2 at *
  generalize w1.heap.size = nb at *
  by_cases h1 : kp < 1
  · have g1 : decide (kp < 1) = true := decide_eq_true h1
    clear hkp h1
    go_wp2_with (first | (refine rw_load rfl 27 (.tmp 7) rfl nb rfl 27 #[.int .i64 0, .int .i64 0, .slice none 0 0] (0, 0) _ XN2.out Try.underlying27 rfl (by kernel_rfl) ?_) | (refine rw_store rfl 27 (.tmp 4) (.tmp 23) rfl rb rfl #[.int .i64 0, .int .i64 0, .slice none 0 0] rfl _ XR2.out (by kernel_rfl) rfl (by simp [Value.oneCell']) ?_))
    have XF := hide (setRow_same (cs := (#[.int .i64 0, .int .i64 0, .slice none 0 0] : Array Value)) XR2.out)
    have BF := hide (setRow_below B2.out HRB.out B2.out.size (#[.int .i64 0, .int .i64 0, .slice none 0 0] : Array Value))
    (try simp only [Exit.inBlock, Exit.then])
    refine bodyPost_ret (res_ctt (P := Try.prog) rfl _ _ rb 27 #[.int .i64 0, .int .i64 0, .slice none 0 0] (0, 0) _ rfl XF.out Try.underlying27 rfl (by kernel_rfl)) rfl ?_
    exact ⟨rfl, BF.out⟩
  · have g1 : decide (kp < 1) = false := decide_eq_false h1
    have g2 : decide (kp > 512) = true := decide_eq_true (by omega)
    clear hkp h1
    go_wp2_with (first | (refine rw_load rfl 27 (.tmp 7) rfl nb rfl 27 #[.int .i64 0, .int .i64 0, .slice none 0 0] (0, 0) _ XN2.out Try.underlying27 rfl (by kernel_rfl) ?_) | (refine rw_store rfl 27 (.tmp 4) (.tmp 23) rfl rb rfl #[.int .i64 0, .int .i64 0, .slice none 0 0] rfl _ XR2.out (by kernel_rfl) rfl (by simp [Value.oneCell']) ?_))
    have XF := hide (setRow_same (cs := (#[.int .i64 0, .int .i64 0, .slice none 0 0] : Array Value)) XR2.out)
    have BF := hide (setRow_below B2.out HRB.out B2.out.size (#[.int .i64 0, .int .i64 0, .slice none 0 0] : Array Value))
    (try simp only [Exit.inBlock, Exit.then])
    refine bodyPost_ret (res_ctt (P := Try.prog) rfl _ _ rb 27 #[.int .i64 0, .int .i64 0, .slice none 0 0] (0, 0) _ rfl XF.out Try.underlying27 rfl (by kernel_rfl)) rfl ?_
    exact ⟨rfl, BF.out⟩

theorem hx_no3' {kp : Int} {x n : Nat} (h : (n : Int) ≥ (x : Int)) : ¬ hxOk kp x n := fun hh => by obtain ⟨z1, z2, z3, z4⟩ := hh; omega
theorem hx_yes' {kp : Int} {x n : Nat} (q0 : ¬ (x : Int) < 1) (q1 : ¬ (x : Int) > 4294967296) (q2 : ¬ (n : Int) > kp) (q3 : ¬ (n : Int) ≥ (x : Int)) : hxOk kp x n := ⟨by omega, by omega, by omega, by omega⟩
theorem at_next (t : List UInt8) (m : Nat) (hm : m ≤ t.length) (h : txG (t.drop m) = true) : ∃ c : Nat, 27 + 10 * (((t.drop m).drop 26).getD 0 0).toNat = c ∧ txRest (t.drop m) = t.drop (m + c) ∧ m + c ≤ t.length ∧ 1 ≤ c := by
  have h1 := txRest_len h
  refine ⟨_, rfl, ?_, ?_, by omega⟩
  · unfold txRest
    rw [List.drop_drop]
  · rw [List.length_drop] at h1
    omega
set_option maxRecDepth 100000 in
set_option maxHeartbeats 8000000 in
theorem rrread_any (kp : Int) (hkp : 1 ≤ kp ∧ kp ≤ 512) (t : List UInt8) (ht : t.length ≤ 1000000) (w : World) :
    Calls Try.prog 12 #[.string (bs t), .int .i64 kp] w (RRdIs kp t w) := by
  obtain ⟨i0, hi, hz0, hz1, hz2⟩ := info_parts (show (Try.prog.info? 38).map (fun i => (i.zero, i.size, i.bytes)) = some (some (.agg #[.int .i64 0, .int .u8 0, .int .i64 0, .int .i64 0, .int .i64 0, .int .i64 0, .bool false, .slice none 0 0]), 8, 80) by kernel_rfl)
  have HI := hide hi
  have HZ0 := hide hz0
  have HZ1 := hide hz1
  have HZ2 := hide hz2
  clear hi hz0 hz1 hz2
  have hsz : (bs t).size = t.length := bs_size t
  have HSZ := hide hsz
  have HN1 := hide (fun W (h : 7 ≤ t.length) => (show Calls Try.prog 34 #[.string ((bs t).extract 0 5)] W (fun e w' => e = .returned (.int .u64 (hdX t : Int)) ∧ W = w') from by
    rw [bs_ext, show hdX t = getN ((t.drop 0).take 5) from by rw [List.drop_zero]; exact if_pos ⟨rfl, by omega⟩]
    exact rnum_any _ (by rw [List.length_take]; omega) W))
  have HN2 := hide (fun W (h : 7 ≤ t.length) => (show Calls Try.prog 34 #[.string ((bs t).extract 5 7)] W (fun e w' => e = .returned (.int .u64 (hdC t : Int)) ∧ W = w') from by
    rw [bs_ext, show hdC t = getN ((t.drop 5).take 2) from if_pos ⟨rfl, by rw [List.length_drop]; omega⟩]
    exact rnum_any _ (by rw [List.length_take]; omega) W))
  have HONE := hide (fun m (h : m ≤ t.length) W => rone_any (t.drop m) (by rw [List.length_drop]; omega) W)
  have HEXT := hide (fun m => bs_rest t m)
  have HX := hide (show hdX t < 1099511627776 ∧ hdC t < 65536 from ⟨vN_lt true t 5, vN_lt true (t.drop 5) 2⟩)
  have HR0 := hide (show ¬ 7 ≤ t.length → regR kp t = none from fun h => if_neg (fun hh => h hh.1))
  have HRN := hide (show ¬ hxOk kp (hdX t) (hdC t) → regR kp t = none from fun h => if_neg (fun hh => h hh.2))
  have HRY := hide (show 7 ≤ t.length → hxOk kp (hdX t) (hdC t) → regR kp t = rdX (hdC t) ((hdX t : Int) - (hdC t : Int)) (t.drop 7) [] from fun h1 h2 => if_pos ⟨h1, h2⟩)
  have HAN := hide (fun m hm h => at_next t m hm h)
  have g1 : decide (kp < 1) = false := decide_eq_false (by omega)
  have g2 : decide (kp > 512) = false := decide_eq_false (by omega)
  have HKP := hide hkp
  unfold ROneX at HONE
  unfold RRdIs
  obtain ⟨T0, hT⟩ : ∃ T, bs t = T := ⟨_, rfl⟩
  rw [hT] at HSZ HN1 HN2 HEXT hsz ⊢
  have hTs : T0.size ≤ 1000000 := by omega
  clear hT hkp
  go_enter Try.func12, Try.ntmps12
  go_upto_region 1 with (fail)
  have XR1 := hide (heap_new w (.cells #[.int .i64 0, .int .i64 0, .slice none 0 0] 27))
  have B1 := hide ((Below.refl w.heap.size w).alloc (Nat.le_refl _) (.cells #[.int .i64 0, .int .i64 0, .slice none 0 0] 27))
  generalize w.alloc (.cells #[.int .i64 0, .int .i64 0, .slice none 0 0] 27) = w1 at *
  obtain ⟨rb, hrb⟩ : ∃ k, w.heap.size = k := ⟨_, rfl⟩
  have HRB := hide (show w.heap.size ≤ rb from by omega)
  rw [hrb] at XR1 ⊢
  clear hrb
  go_upto_region 2 with (refine rw_store rfl 27 (.tmp 7) (.tmp 16) rfl w1.heap.size rfl #[.int .i64 0, .int .i64 0, .slice none 0 0] rfl _ (heap_new w1 _) (by kernel_rfl) rfl (by simp [Value.oneCell']) ?_)
  have XN2 := hide (setRow_same (cs := (#[.int .i64 0, .int .i64 0, .slice none 0 0] : Array Value)) (heap_new w1 (.cells #[.int .i64 0, .int .i64 0, .slice none 0 0] 27)))
  have hal := (Below.refl w1.heap.size w1).alloc (Nat.le_refl _) (.cells #[.int .i64 0, .int .i64 0, .slice none 0 0] 27)
  have HNR := hide (show w1.heap.size ≠ rb from by have := heap_lt XR1.out; omega)
  have XR2 := hide ((setRow_diff HNR.out (cs := (#[.int .i64 0, .int .i64 0, .slice none 0 0] : Array Value))).trans ((hal.block _ (heap_lt XR1.out)).trans XR1.out))
  have B2 := hide (setRow_below (B1.out.trans (hal.mono B1.out.size)) B1.out.size (B1.out.trans (hal.mono B1.out.size)).size (#[.int .i64 0, .int .i64 0, .slice none 0 0] : Array Value))
  clear hal XR1 B1
  generalize (w1.alloc (.cells #[.int .i64 0, .int .i64 0, .slice none 0 0] 27)).setRow w1.heap.size (#[.int .i64 0, .int .i64 0, .slice none 0 0] : Array Value) = w2 at *
  generalize w1.heap.size = nb at *
  by_cases h7 : T0.size < 7
  · have g3 : decide ((T0.size : Int) < 7) = true := decide_eq_true (by omega)
    have HNN := hide (HR0.out (by omega))
    as_aux_lemma =>
      go_upto_region 5 with (fail)
      go_wp2_with (first | (refine rw_load rfl 27 (.tmp 7) rfl nb rfl 27 #[.int .i64 0, .int .i64 0, .slice none 0 0] (0, 0) _ XN2.out Try.underlying27 rfl (by kernel_rfl) ?_) | (refine rw_store rfl 27 (.tmp 4) (.tmp 27) rfl rb rfl #[.int .i64 0, .int .i64 0, .slice none 0 0] rfl _ XR2.out (by kernel_rfl) rfl (by simp [Value.oneCell']) ?_))
      have XF := hide (setRow_same (cs := (#[.int .i64 0, .int .i64 0, .slice none 0 0] : Array Value)) XR2.out)
      have BF := hide (setRow_below B2.out HRB.out B2.out.size (#[.int .i64 0, .int .i64 0, .slice none 0 0] : Array Value))
      (try simp only [Exit.inBlock, Exit.then])
      refine bodyPost_ret (res_ctt (P := Try.prog) rfl _ _ rb 27 #[.int .i64 0, .int .i64 0, .slice none 0 0] (0, 0) _ rfl XF.out Try.underlying27 rfl (by kernel_rfl)) rfl ?_
      exact ⟨.inl ⟨HNN.out, rfl⟩, BF.out⟩
  have g3 : decide ((T0.size : Int) < 7) = false := decide_eq_false (by omega)
  have H7 := hide (show 7 ≤ t.length from by omega)
  have HN1 := hide (fun W => HN1.out W H7.out)
  have HN2 := hide (fun W => HN2.out W H7.out)
  have HRY := hide (fun h => HRY.out H7.out h)
  have hz5 : 5 ≤ T0.size := by omega
  have hy5 : (5 : Int) ≤ (T0.size : Int) := by omega
  have hz7 : 7 ≤ T0.size := by omega
  have hy7 : (7 : Int) ≤ (T0.size : Int) := by omega
  clear hsz HR0
  obtain ⟨x, hxx⟩ : ∃ x, hdX t = x := ⟨_, rfl⟩
  obtain ⟨n, hnn⟩ : ∃ n, hdC t = n := ⟨_, rfl⟩
  rw [hxx] at HN1 HX HRN HRY
  rw [hnn] at HN2 HX HRN HRY
  have HXX := hide hxx
  clear hxx hnn
  have HNO := hide HRN.out
  obtain ⟨hx1, hx2, hn1, hn2, hs1, hs2, hs3, hs4⟩ := sx_nums x n HX.out.1 HX.out.2
  go_wp2_with fail
  refine (HN1.out _).mono ?_
  rintro e w9 ⟨rfl, rfl⟩
  go_wp2_with fail
  refine (HN2.out _).mono ?_
  rintro e w9 ⟨rfl, rfl⟩
  go_upto_region 9 with (refine rw_store rfl 27 (.tmp 10) (.tmp 37) rfl w2.heap.size rfl #[.int .i64 kp, .int .i64 (x : Int), .slice none 0 0] rfl _ (heap_new w2 _) (by kernel_rfl) rfl (by simp [Value.oneCell']) ?_)
  have XQ5 := hide (setRow_same (cs := (#[.int .i64 kp, .int .i64 (x : Int), .slice none 0 0] : Array Value)) (heap_new w2 (.cells #[.int .i64 0, .int .i64 0, .slice none 0 0] 27)))
  have hal := (Below.refl w2.heap.size w2).alloc (Nat.le_refl _) (.cells #[.int .i64 0, .int .i64 0, .slice none 0 0] 27)
  have HNB := hide (show nb ≠ rb ∧ rb ≠ w2.heap.size ∧ nb ≠ w2.heap.size from by have h1 := heap_lt XR2.out; have h2 := heap_lt XN2.out; have := HNR.out; exact ⟨this, by omega, by omega⟩)
  have HQB := hide (show w.heap.size ≤ w2.heap.size from B2.out.size)
  have XR5 := hide ((setRow_diff HNB.out.2.1.symm (cs := (#[.int .i64 kp, .int .i64 (x : Int), .slice none 0 0] : Array Value))).trans ((hal.block _ (heap_lt XR2.out)).trans XR2.out))
  have XN5 := hide ((setRow_diff HNB.out.2.2.symm (cs := (#[.int .i64 kp, .int .i64 (x : Int), .slice none 0 0] : Array Value))).trans ((hal.block _ (heap_lt XN2.out)).trans XN2.out))
  have B5 := hide (setRow_below (B2.out.trans (hal.mono B2.out.size)) B2.out.size (B2.out.trans (hal.mono B2.out.size)).size (#[.int .i64 kp, .int .i64 (x : Int), .slice none 0 0] : Array Value))
  clear hal XR2 XN2 B2 HN1 HN2 HNR g1 g2 g3 hz5 hy5 hz7 hy7
  generalize (w2.alloc (.cells #[.int .i64 0, .int .i64 0, .slice none 0 0] 27)).setRow w2.heap.size (#[.int .i64 kp, .int .i64 (x : Int), .slice none 0 0] : Array Value) = w5 at *
  generalize w2.heap.size = qb at *
  have c1 : w5.cell? ⟨qb, 1, none⟩ = some (.int .i64 (x : Int)) := cell_of_block XQ5.out 1
  by_cases q0 : (x : Int) < 1
  · have g0 : decide ((x : Int) < 1) = true := decide_eq_true q0
    have HNN := hide (HNO.out (hx_no0 q0))
    as_aux_lemma =>
      go_upto_region 11 with (fail)
      go_wp2_with (first | (refine rw_load rfl 27 (.tmp 7) rfl nb rfl 27 #[.int .i64 0, .int .i64 0, .slice none 0 0] (0, 0) _ XN5.out Try.underlying27 rfl (by kernel_rfl) ?_) | (refine rw_store rfl 27 (.tmp 4) (.tmp 59) rfl rb rfl #[.int .i64 0, .int .i64 0, .slice none 0 0] rfl _ XR5.out (by kernel_rfl) rfl (by simp [Value.oneCell']) ?_))
      have XF := hide (setRow_same (cs := (#[.int .i64 0, .int .i64 0, .slice none 0 0] : Array Value)) XR5.out)
      have BF := hide (setRow_below B5.out HRB.out B5.out.size (#[.int .i64 0, .int .i64 0, .slice none 0 0] : Array Value))
      (try simp only [Exit.inBlock, Exit.then])
      refine bodyPost_ret (res_ctt (P := Try.prog) rfl _ _ rb 27 #[.int .i64 0, .int .i64 0, .slice none 0 0] (0, 0) _ rfl XF.out Try.underlying27 rfl (by kernel_rfl)) rfl ?_
      exact ⟨.inl ⟨HNN.out, rfl⟩, BF.out⟩
  have g0 : decide ((x : Int) < 1) = false := decide_eq_false q0
  by_cases q1 : (x : Int) > 4294967296
  · have g1 : decide ((x : Int) > 4294967296) = true := decide_eq_true q1
    have HNN := hide (HNO.out (hx_no1 q1))
    as_aux_lemma =>
      go_upto_region 11 with (fail)
      go_wp2_with (first | (refine rw_load rfl 27 (.tmp 7) rfl nb rfl 27 #[.int .i64 0, .int .i64 0, .slice none 0 0] (0, 0) _ XN5.out Try.underlying27 rfl (by kernel_rfl) ?_) | (refine rw_store rfl 27 (.tmp 4) (.tmp 59) rfl rb rfl #[.int .i64 0, .int .i64 0, .slice none 0 0] rfl _ XR5.out (by kernel_rfl) rfl (by simp [Value.oneCell']) ?_))
      have XF := hide (setRow_same (cs := (#[.int .i64 0, .int .i64 0, .slice none 0 0] : Array Value)) XR5.out)
      have BF := hide (setRow_below B5.out HRB.out B5.out.size (#[.int .i64 0, .int .i64 0, .slice none 0 0] : Array Value))
      (try simp only [Exit.inBlock, Exit.then])
      refine bodyPost_ret (res_ctt (P := Try.prog) rfl _ _ rb 27 #[.int .i64 0, .int .i64 0, .slice none 0 0] (0, 0) _ rfl XF.out Try.underlying27 rfl (by kernel_rfl)) rfl ?_
      exact ⟨.inl ⟨HNN.out, rfl⟩, BF.out⟩
  have g1 : decide ((x : Int) > 4294967296) = false := decide_eq_false q1
  by_cases q2 : (n : Int) > kp
  · have g2 : decide ((n : Int) > kp) = true := decide_eq_true q2
    have HNN := hide (HNO.out (hx_no2 q2))
    as_aux_lemma =>
      go_upto_region 11 with (fail)
      go_wp2_with (first | (refine rw_load rfl 27 (.tmp 7) rfl nb rfl 27 #[.int .i64 0, .int .i64 0, .slice none 0 0] (0, 0) _ XN5.out Try.underlying27 rfl (by kernel_rfl) ?_) | (refine rw_store rfl 27 (.tmp 4) (.tmp 59) rfl rb rfl #[.int .i64 0, .int .i64 0, .slice none 0 0] rfl _ XR5.out (by kernel_rfl) rfl (by simp [Value.oneCell']) ?_))
      have XF := hide (setRow_same (cs := (#[.int .i64 0, .int .i64 0, .slice none 0 0] : Array Value)) XR5.out)
      have BF := hide (setRow_below B5.out HRB.out B5.out.size (#[.int .i64 0, .int .i64 0, .slice none 0 0] : Array Value))
      (try simp only [Exit.inBlock, Exit.then])
      refine bodyPost_ret (res_ctt (P := Try.prog) rfl _ _ rb 27 #[.int .i64 0, .int .i64 0, .slice none 0 0] (0, 0) _ rfl XF.out Try.underlying27 rfl (by kernel_rfl)) rfl ?_
      exact ⟨.inl ⟨HNN.out, rfl⟩, BF.out⟩
  have g2 : decide ((n : Int) > kp) = false := decide_eq_false q2
  by_cases q3 : (n : Int) ≥ (x : Int)
  · have g3 : decide ((n : Int) ≥ (x : Int)) = true := decide_eq_true q3
    have HNN := hide (HNO.out (hx_no3' q3))
    as_aux_lemma =>
      go_upto_region 11 with (fail)
      go_wp2_with (first | (refine rw_load rfl 27 (.tmp 7) rfl nb rfl 27 #[.int .i64 0, .int .i64 0, .slice none 0 0] (0, 0) _ XN5.out Try.underlying27 rfl (by kernel_rfl) ?_) | (refine rw_store rfl 27 (.tmp 4) (.tmp 59) rfl rb rfl #[.int .i64 0, .int .i64 0, .slice none 0 0] rfl _ XR5.out (by kernel_rfl) rfl (by simp [Value.oneCell']) ?_))
      have XF := hide (setRow_same (cs := (#[.int .i64 0, .int .i64 0, .slice none 0 0] : Array Value)) XR5.out)
      have BF := hide (setRow_below B5.out HRB.out B5.out.size (#[.int .i64 0, .int .i64 0, .slice none 0 0] : Array Value))
      (try simp only [Exit.inBlock, Exit.then])
      refine bodyPost_ret (res_ctt (P := Try.prog) rfl _ _ rb 27 #[.int .i64 0, .int .i64 0, .slice none 0 0] (0, 0) _ rfl XF.out Try.underlying27 rfl (by kernel_rfl)) rfl ?_
      exact ⟨.inl ⟨HNN.out, rfl⟩, BF.out⟩
  have g3 : decide ((n : Int) ≥ (x : Int)) = false := decide_eq_false q3
  have hok := hx_yes' q0 q1 q2 q3
  have HY2 := hide (HRY.out hok)
  have HOK := hide hok
  have HS34 := hide (And.intro hs3 hs4)
  clear hok HRY HNO HRN hs3 hs4
  go_wp2_with fail
  clear q0 q1 q2 q3 c1 hx1 hx2 hn1 hn2 hs1 hs2 g0 g1 g2 g3
  go_loopw [12, 13] (fun s12 i W => ∃ (k m : Nat) (T : List TxA) (a : Option Addr) (cp : Nat), k ≤ n ∧ m ≤ t.length ∧ s12 = .int .i64 m ∧ i = .int .i64 k ∧ T.length = k ∧ W.heap[qb]? = some (.cells #[.int .i64 kp, .int .i64 (x : Int), .slice a k cp] 27 (0, 0)) ∧ W.heap[rb]? = some (.cells #[.int .i64 0, .int .i64 0, .slice none 0 0] 27 (0, 0)) ∧ W.heap[nb]? = some (.cells #[.int .i64 0, .int .i64 0, .slice none 0 0] 27 (0, 0)) ∧ W.ownsRow w.heap.size 38 8 (.slice a k cp) k (T.flatMap txC) ∧ (∀ y ∈ T, LnTy 87 w.heap.size W y.la y.t.L) ∧ regR kp t = rdX (n - k) ((x : Int) - (n : Int) + (k : Int)) (t.drop m) (T.map (·.t)) ∧ Below w.heap.size w W) (fun _ i _ => n - (intOf i).toNat)
  case atStart => exact ⟨0, 7, [], none, 0, by omega, H7.out, rfl, rfl, rfl, XQ5.out, XR5.out, XN5.out, World.ownsRow_nil _ _ _ _, (fun y hy => by cases hy), (by rw [HY2.out]; congr 1; omega), B5.out⟩
  case round =>
    obtain ⟨k, m, T, a, cp, hk, hm, rfl, rfl, hL1, hxq, hxr, hxn, hO, hLS, hy, hb⟩ := hrel
    have XQM := hide hxq
    have XRM := hide hxr
    have XNM := hide hxn
    have OM := hide hO
    have LSM := hide hLS
    have BM := hide hb
    have HYM := hide hy
    have HL1 := hide hL1
    have HMT := hide hm
    clear hxq hxr hxn hO hLS hb hy hL1 XQ5 XR5 XN5 B5 HY2
    by_cases hlt : k < n
    · have HLTM := hide hlt
      have HONM := hide (fun W => HONE.out m hm W)
      have HEXM := hide (HEXT.out m)
      have hmI : (m : Int) ≤ (T0.size : Int) := by have := HSZ.out; omega
      have hmN : m ≤ T0.size := by have := HSZ.out; omega
      have HSN := hide (sub_next hlt)
      obtain ⟨ha1, ha2, hbd⟩ := sx_at x n k HX.out.1 HX.out.2 hlt
      obtain ⟨hs3, hs4⟩ := HS34.out
      have hex := HEXM.out
      have HANM := hide (fun h => HAN.out m HMT.out h)
      clear hm
      go_wp2_with fail
      (try rw [hex])
      refine (HONM.out _).mono ?_
      rintro e w5 ⟨hh, hb⟩
      have XQ5 := hide ((hb.block _ (heap_lt XQM.out)).trans XQM.out)
      have XR5 := hide ((hb.block _ (heap_lt XRM.out)).trans XRM.out)
      have XN5 := hide ((hb.block _ (heap_lt XNM.out)).trans XNM.out)
      have O5 := hide (owns_below OM.out hb)
      have LS5 := hide (fun y hy => (LSM.out y hy).below hb)
      have B5 := hide (BM.out.trans (hb.mono BM.out.size))
      have HSB := hide (show w.heap.size ≤ wr.heap.size from BM.out.size)
      clear hb XQM XRM XNM OM LSM BM HONM hex hmI hmN
      rcases hh with ⟨hg, a9, c9, rfl, hln⟩ | ⟨hg, rfl⟩
      · obtain ⟨ac, hac, hdr, hml, hc1⟩ := HANM.out hg
        have LA5 := hide hln
        have HYN0 := hide (show regR kp t = rdX (n - (k + 1)) ((x : Int) - (n : Int) + (k : Int) + 1) (t.drop (m + ac)) (T.map (·.t) ++ [{ txR (t.drop m) with num := (x : Int) - (n : Int) + (k : Int) }]) from by
          rw [HYM.out, HSN.out, rdX_yes hg, hdr])
        rw [hac]
        have HAC := hide (show 1 ≤ ac ∧ m + ac ≤ t.length from ⟨hc1, hml⟩)
        clear hln hac hdr hml hc1 hg HYM HANM
        unfold txV txC
        dsimp only
        obtain ⟨T9, hT⟩ : ∃ T9, txR (t.drop m) = T9 := ⟨_, rfl⟩
        rw [hT] at HYN0 LA5 ⊢
        obtain ⟨nz, k9, s9, r9, am9, le9, vb9, L9⟩ := T9
        dsimp only at *
        have HYN := hide (show regR kp t = rdX (n - (k + 1)) ((x : Int) - (n : Int) + ((k + 1 : Nat) : Int)) (t.drop (m + ac)) ((T ++ [(TxA.mk (TxM.mk ((x : Int) - (n : Int) + (k : Int)) k9 s9 r9 am9 le9 vb9 L9) a9 c9)]).map (·.t)) from by
          rw [HYN0.out, List.map_append, show (x : Int) - (n : Int) + ((k + 1 : Nat) : Int) = (x : Int) - (n : Int) + (k : Int) + 1 from by omega]
          rfl)
        clear HYN0 hT
        obtain ⟨az, haz⟩ : ∃ az : Int, (ac : Int) = az := ⟨_, rfl⟩
        have HAZ := hide haz
        rw [haz]
        have haz0 : (az == 0) = false := beq_eq_false_iff_ne.mpr (by have := HAC.out; omega)
        have hmw : IntKind.i64.wrap ((m : Int) + az) = ((m + ac : Nat) : Int) := by rw [IntKind.wrap_i64, ← haz]; have := HAC.out; omega
        have hmw2 : wrap64 ((m : Int) + az) = ((m + ac : Nat) : Int) := by rw [← haz]; unfold wrap64; have := HAC.out; omega
        clear haz
        go_upto_region 17 with (refine rw_store rfl 38 (.tmp 14) (.tmp 70) rfl w5.heap.size rfl #[.int .i64 nz, .int .u8 k9, .int .i64 s9, .int .i64 r9, .int .i64 am9, .int .i64 le9, .bool vb9, .slice a9 L9.length c9] rfl _ (heap_new w5 (.cells #[.int .i64 0, .int .u8 0, .int .i64 0, .int .i64 0, .int .i64 0, .int .i64 0, .bool false, .slice none 0 0] 38)) (by kernel_rfl) rfl (by simp [Value.oneCell']) ?_)
        have XB := hide (heap_new w5 (.cells #[.int .i64 0, .int .u8 0, .int .i64 0, .int .i64 0, .int .i64 0, .int .i64 0, .bool false, .slice none 0 0] 38))
        have hal := (Below.refl w5.heap.size w5).alloc (Nat.le_refl _) (.cells #[.int .i64 0, .int .u8 0, .int .i64 0, .int .i64 0, .int .i64 0, .int .i64 0, .bool false, .slice none 0 0] 38)
        have hbb := setRow_below (hal.trans (Below.refl _ _)) (Nat.le_refl _) hal.size (#[.int .i64 nz, .int .u8 k9, .int .i64 s9, .int .i64 r9, .int .i64 am9, .int .i64 le9, .bool vb9, .slice a9 L9.length c9] : Array Value)
        have XT6 := hide (setRow_same (cs := (#[.int .i64 nz, .int .u8 k9, .int .i64 s9, .int .i64 r9, .int .i64 am9, .int .i64 le9, .bool vb9, .slice a9 L9.length c9] : Array Value)) XB.out)
        have HTQ := hide (show w5.heap.size ≠ qb ∧ w5.heap.size ≠ rb ∧ w5.heap.size ≠ nb from by have h1 := heap_lt XQ5.out; have h2 := heap_lt XR5.out; have h3 := heap_lt XN5.out; omega)
        have HTBB := hide (show w.heap.size ≤ w5.heap.size from B5.out.size)
        have HOT := hide (show ∀ g, (Value.slice a k cp).ownBlock = some g → g ≠ w5.heap.size from fun g hg => by have := (O5.out.lt g hg).2; omega)
        have XQ6 := hide ((hbb.block _ (heap_lt XQ5.out)).trans XQ5.out)
        have XR6 := hide ((hbb.block _ (heap_lt XR5.out)).trans XR5.out)
        have XN6 := hide ((hbb.block _ (heap_lt XN5.out)).trans XN5.out)
        have O6 := hide (owns_below O5.out hbb)
        have LS6 := hide (fun y hy => (LS5.out y hy).below hbb)
        have LA6 := hide (LA5.out.below hbb)
        have B6 := hide (B5.out.trans (hbb.mono B5.out.size))
        clear hal hbb XQ5 XR5 XN5 O5 LS5 LA5 B5 XB
        generalize (w5.alloc (.cells #[.int .i64 0, .int .u8 0, .int .i64 0, .int .i64 0, .int .i64 0, .int .i64 0, .bool false, .slice none 0 0] 38)).setRow w5.heap.size (#[.int .i64 nz, .int .u8 k9, .int .i64 s9, .int .i64 r9, .int .i64 am9, .int .i64 le9, .bool vb9, .slice a9 L9.length c9] : Array Value) = w6 at *
        generalize w5.heap.size = tb at *
        have c1 : w6.cell? ⟨qb, 1, none⟩ = some (.int .i64 (x : Int)) := cell_of_block XQ6.out 1
        have ct : w6.cell? ⟨tb, 0, none⟩ = some (.int .i64 nz) := cell_of_block XT6.out 0
        have ft : w6.frozen? ⟨tb, 0, none⟩ = false := frozen_of_block XT6.out 0
        go_upto_region 20 with (fail)
        have XT7 := hide (show (w6.setCell ⟨tb, 0, none⟩ (.int .i64 ((x : Int) - (n : Int) + (k : Int)))).heap[tb]? = some (.cells #[.int .i64 ((x : Int) - (n : Int) + (k : Int)), .int .u8 k9, .int .i64 s9, .int .i64 r9, .int .i64 am9, .int .i64 le9, .bool vb9, .slice a9 L9.length c9] 38 (0, 0)) from block_setCell XT6.out 0 (.int .i64 ((x : Int) - (n : Int) + (k : Int))))
        have KT7 := hide (setCell_keepsP XT6.out 0 (.int .i64 ((x : Int) - (n : Int) + (k : Int))))
        have XQ7 := hide ((block_setCell_other HTQ.out.1 0 (.int .i64 ((x : Int) - (n : Int) + (k : Int)))).trans XQ6.out)
        have XR7 := hide ((block_setCell_other HTQ.out.2.1 0 (.int .i64 ((x : Int) - (n : Int) + (k : Int)))).trans XR6.out)
        have XN7 := hide ((block_setCell_other HTQ.out.2.2 0 (.int .i64 ((x : Int) - (n : Int) + (k : Int)))).trans XN6.out)
        have O7 := hide (ownsRow_setCell_other (a := ⟨tb, 0, none⟩) O6.out (fun e => HOT.out _ e rfl) (.int .i64 ((x : Int) - (n : Int) + (k : Int))))
        have LS7 := hide (fun y hy => by
          obtain h := LS6.out y hy
          exact h.keepsT KT7.out (by decide))
        have LA7 := hide (LA6.out.keepsT KT7.out (by decide))
        have B7 := hide (B6.out.setCell (p := ⟨tb, 0, none⟩) HTBB.out (.int .i64 ((x : Int) - (n : Int) + (k : Int))))
        clear c1 ct ft XT6 XQ6 XR6 XN6 O6 LS6 LA6 B6 KT7 ha1 ha2 hs3 hs4
        generalize w6.setCell ⟨tb, 0, none⟩ (.int .i64 ((x : Int) - (n : Int) + (k : Int))) = w7 at *
        have c2 := cell_of_block XQ7.out 2
        obtain ⟨t0, t1, t2, t3, t4, t5, t6, t7⟩ := eight_cells XT7.out
        have hA := (Below.refl w7.heap.size w7).alloc (Nat.le_refl _) (.cells #[.int .i64 ((x : Int) - (n : Int) + (k : Int)), .int .u8 k9, .int .i64 s9, .int .i64 r9, .int .i64 am9, .int .i64 le9, .bool vb9, .slice a9 L9.length c9] 38)
        have HNEW := hide (eight_at (heap_new w7 (.cells #[.int .i64 ((x : Int) - (n : Int) + (k : Int)), .int .u8 k9, .int .i64 s9, .int .i64 r9, .int .i64 am9, .int .i64 le9, .bool vb9, .slice a9 L9.length c9] 38)))
        have OA := hide (owns_below O7.out hA)
        have LSA := hide (fun y hy => (LS7.out y hy).below hA)
        have LAA := hide (LA7.out.below hA)
        have BA := hide (B7.out.trans (hA.mono B7.out.size))
        have XQA := hide ((hA.block _ (heap_lt XQ7.out)).trans XQ7.out)
        have XRA := hide ((hA.block _ (heap_lt XR7.out)).trans XR7.out)
        have XNA := hide ((hA.block _ (heap_lt XN7.out)).trans XN7.out)
        have HWA := hide (show w.heap.size ≤ (w7.alloc (.cells #[.int .i64 ((x : Int) - (n : Int) + (k : Int)), .int .u8 k9, .int .i64 s9, .int .i64 r9, .int .i64 am9, .int .i64 le9, .bool vb9, .slice a9 L9.length c9] 38)).heap.size from BA.out.size)
        have HK5 := hide (show k ≤ 65536 from by have := HX.out.2; omega)
        clear hA
        go_wp2_with (at_builtin; refine wpList_append_own2 _ rfl _ _ 25 rfl w.heap.size 38 i0 (.agg #[.int .i64 0, .int .u8 0, .int .i64 0, .int .i64 0, .int .i64 0, .int .i64 0, .bool false, .slice none 0 0]) 8 80 Try.underlying25 HI.out HZ0.out HZ1.out HZ2.out rfl (by decide) (.slice a k cp) k (T.flatMap txC) rfl OA.out ⟨w7.heap.size, 0, none⟩ 1 1 (by decide) [.int .i64 ((x : Int) - (n : Int) + (k : Int)), .int .u8 k9, .int .i64 s9, .int .i64 r9, .int .i64 am9, .int .i64 le9, .bool vb9, .slice a9 L9.length c9] rfl rfl HNEW.out (txC_one (TxA.mk (TxM.mk ((x : Int) - (n : Int) + (k : Int)) k9 s9 r9 am9 le9 vb9 L9) a9 c9)) (by unfold maxLen; have := HK5.out; omega) (by have := HK5.out; omega) HWA.out ?_; intro g3 c3' w' ho hgr hnil; have HO7 := hide ho; have HGR := hide hgr; clear ho hgr hnil c2 t0 t1 t2 t3 t4 t5 t6 t7; have XQG := hide (grown_stays OA.out HGR.out XQA.out (by decide)); have c2 := cell_of_block XQG.out 2; have f2 := frozen_of_block XQG.out 2)
        clear c2 f2
        have XRG := hide (grown_stays OA.out HGR.out XRA.out (by decide))
        have XNG := hide (grown_stays OA.out HGR.out XNA.out (by decide))
        have BG := hide (BA.out.grown HGR.out BA.out.size (fun j h => (OA.out.lt j h).1))
        have KG := hide (KeepsT.grown (Ts := [38]) OA.out (by decide) HGR.out)
        have HGQ := hide (show (Value.slice (some ⟨g3, 0, none⟩) (k + 1) c3').ownBlock ≠ some qb from fun e => by
          obtain ⟨c', fz', hc⟩ := Go.Lib.ownsRow_kind HO7.out qb e
          rw [XQG.out] at hc
          simp only [Option.some.injEq, Obj.cells.injEq] at hc
          exact absurd hc.2.1 (by decide))
        have KQ := hide (setCell_keepsP XQG.out 2 (.slice (some ⟨g3, 0, none⟩) (k + 1) c3'))
        have XQ8 := hide (show (w'.setCell ⟨qb, 2, none⟩ (.slice (some ⟨g3, 0, none⟩) (k + 1) c3')).heap[qb]? = some (.cells #[.int .i64 kp, .int .i64 (x : Int), .slice (some ⟨g3, 0, none⟩) (k + 1) c3'] 27 (0, 0)) from block_setCell XQG.out 2 (.slice (some ⟨g3, 0, none⟩) (k + 1) c3'))
        have XR8 := hide ((block_setCell_other HNB.out.2.1.symm 2 (.slice (some ⟨g3, 0, none⟩) (k + 1) c3')).trans XRG.out)
        have XN8 := hide ((block_setCell_other HNB.out.2.2.symm 2 (.slice (some ⟨g3, 0, none⟩) (k + 1) c3')).trans XNG.out)
        have O8 := hide (ownsRow_setCell_other (a := ⟨qb, 2, none⟩) HO7.out HGQ.out (.slice (some ⟨g3, 0, none⟩) (k + 1) c3'))
        have LS8 := hide (fun y hy => ((LSA.out y hy).keepsT KG.out (by decide)).keepsT KQ.out (by decide))
        have LA8 := hide ((LAA.out.keepsT KG.out (by decide)).keepsT KQ.out (by decide))
        have B8 := hide (BG.out.setCell (p := ⟨qb, 2, none⟩) HQB.out (.slice (some ⟨g3, 0, none⟩) (k + 1) c3'))
        go_roundw
        case rel => exact ⟨k + 1, m + ac, T ++ [(TxA.mk (TxM.mk ((x : Int) - (n : Int) + (k : Int)) k9 s9 r9 am9 le9 vb9 L9) a9 c9)], some ⟨g3, 0, none⟩, c3', HLTM.out, HAC.out.2, by first | rfl | trivial | go_num, by go_num, by rw [List.length_append, HL1.out]; rfl, XQ8.out, XR8.out, XN8.out, by rw [flat_snoc8]; exact O8.out, (fun y hy => by
          rcases List.mem_append.1 hy with hy | hy
          · exact LS8.out y hy
          · rw [List.mem_singleton.1 hy]; exact LA8.out.mono HSB.out), HYN.out, B8.out⟩
        case measure => have := HLTM.out; simp [intOf]; omega
      · have HNN := hide (show regR kp t = none from by rw [HYM.out, HSN.out, rdX_no (by rw [hg]; decide)])
        unfold txV txC ta0 tx0
        dsimp only
        clear hg HYM HANM
        as_aux_lemma =>
          go_upto_region 17 with (refine rw_store rfl 38 (.tmp 14) (.tmp 70) rfl w5.heap.size rfl #[.int .i64 0, .int .u8 0, .int .i64 0, .int .i64 0, .int .i64 0, .int .i64 0, .bool false, .slice none 0 0] rfl _ (heap_new w5 (.cells #[.int .i64 0, .int .u8 0, .int .i64 0, .int .i64 0, .int .i64 0, .int .i64 0, .bool false, .slice none 0 0] 38)) (by kernel_rfl) rfl (by simp [Value.oneCell']) ?_)
          have hal := (Below.refl w5.heap.size w5).alloc (Nat.le_refl _) (.cells #[.int .i64 0, .int .u8 0, .int .i64 0, .int .i64 0, .int .i64 0, .int .i64 0, .bool false, .slice none 0 0] 38)
          have hbb := setRow_below (hal.trans (Below.refl _ _)) (Nat.le_refl _) hal.size (#[.int .i64 0, .int .u8 0, .int .i64 0, .int .i64 0, .int .i64 0, .int .i64 0, .bool false, .slice none 0 0] : Array Value)
          have XR6 := hide ((hbb.block _ (heap_lt XR5.out)).trans XR5.out)
          have XN6 := hide ((hbb.block _ (heap_lt XN5.out)).trans XN5.out)
          have B6 := hide (B5.out.trans (hbb.mono B5.out.size))
          clear hal hbb
          generalize (w5.alloc (.cells #[.int .i64 0, .int .u8 0, .int .i64 0, .int .i64 0, .int .i64 0, .int .i64 0, .bool false, .slice none 0 0] 38)).setRow w5.heap.size (#[.int .i64 0, .int .u8 0, .int .i64 0, .int .i64 0, .int .i64 0, .int .i64 0, .bool false, .slice none 0 0] : Array Value) = w6 at *
          go_wp2_with (first | (refine rw_load rfl 27 (.tmp 7) rfl nb rfl 27 #[.int .i64 0, .int .i64 0, .slice none 0 0] (0, 0) _ XN6.out Try.underlying27 rfl (by kernel_rfl) ?_) | (refine rw_store rfl 27 (.tmp 4) (.tmp 74) rfl rb rfl #[.int .i64 0, .int .i64 0, .slice none 0 0] rfl _ XR6.out (by kernel_rfl) rfl (by simp [Value.oneCell']) ?_))
          have XF := hide (setRow_same (cs := (#[.int .i64 0, .int .i64 0, .slice none 0 0] : Array Value)) XR6.out)
          have BF := hide (setRow_below B6.out HRB.out B6.out.size (#[.int .i64 0, .int .i64 0, .slice none 0 0] : Array Value))
          (try simp only [Exit.inBlock, Exit.then])
          refine bodyPost_ret (res_ctt (P := Try.prog) rfl _ _ rb 27 #[.int .i64 0, .int .i64 0, .slice none 0 0] (0, 0) _ rfl XF.out Try.underlying27 rfl (by kernel_rfl)) rfl ?_
          exact ⟨.inl ⟨HNN.out, rfl⟩, BF.out⟩
    · obtain rfl : k = n := by omega
      clear hlt
      rw [Nat.sub_self] at HYM
      have HSO := hide (show regR kp t = some (T.map (·.t), t.drop m) from HYM.out)
      have HLN := hide (show ((t.length : Int) - ((t.drop m).length : Int)) = (m : Int) from by rw [List.length_drop]; have := HMT.out; omega)
      go_wp2_with (first | (refine rw_load rfl 27 (.tmp 10) rfl qb rfl 27 _ (0, 0) _ XQM.out Try.underlying27 rfl (by kernel_rfl) ?_) | (refine rw_store rfl 27 (.tmp 4) (.tmp 91) rfl rb rfl #[.int .i64 kp, .int .i64 (x : Int), .slice a k cp] rfl _ XRM.out (by kernel_rfl) rfl (by simp [Value.oneCell']) ?_))
      have XF := hide (setRow_same (cs := (#[.int .i64 kp, .int .i64 (x : Int), .slice a k cp] : Array Value)) XRM.out)
      have BF := hide (setRow_below BM.out HRB.out BM.out.size (#[.int .i64 kp, .int .i64 (x : Int), .slice a k cp] : Array Value))
      have KF := hide (setRow_keeps (Ts := [27]) XRM.out (by decide) (#[.int .i64 kp, .int .i64 (x : Int), .slice a k cp] : Array Value))
      (try simp only [Exit.inBlock, Exit.then])
      refine bodyPost_ret (res_ctt (P := Try.prog) rfl _ _ rb 27 #[.int .i64 kp, .int .i64 (x : Int), .slice a k cp] (0, 0) _ rfl XF.out Try.underlying27 rfl (by kernel_rfl)) rfl ?_
      refine ⟨.inr ⟨T, t.drop m, a, cp, HSO.out, ?_, ?_, fun y hy => ((LSM.out y hy).keepsT KF.out (by decide)).mono (Nat.zero_le _)⟩, BF.out⟩
      · rw [HLN.out, HL1.out, HXX.out]; rfl
      · rw [HL1.out]
        exact owns_base0 (KF.out.owns OM.out (by decide)) (Nat.zero_le _)
end Go.Proofs.Ytbnbfnlfgmlcgaa
