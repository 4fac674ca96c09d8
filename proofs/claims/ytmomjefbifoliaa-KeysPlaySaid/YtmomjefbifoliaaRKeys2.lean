/-
  Layer 24: are the keys the document's; the document's Text by contract.
-/
import Derived.Test.YtmomjefbifoliaaRKeys
--import Derived.Test.Zdbg
namespace Go.Proofs.Ytmomjefbifoliaa
set_option linter.unusedSimpArgs false
set_option linter.unusedVariables false
open Go.RowKit Go.WideShapes Go.ChangeShapes Go.ChangeAt

theorem fieldsEnt : fdesc (Try.prog.fieldsOf 37).toList = [("Key", 29, 0), ("Body", 9, 1), ("Number", 3, 2)] := by kernel_rfl
theorem eq_ent (k k' n n' : Int) (t t' : ByteArray) (w : World) : (Op.equalIn 10000 37 (.agg #[.int .u64 k, .string t, .int .i64 n]) (.agg #[.int .u64 k', .string t', .int .i64 n'])).run Try.prog w =
    .ok (k == k' && (t.toList == t'.toList && (n == n' && true))) w := by
  rw [run_equalIn_agg w 9999 37 _ _ (by kernel_rfl) (by kernel_rfl)]
  exact eqF_cons w _ _ _ fieldsEnt (by decide) (by kernel_rfl) (by kernel_rfl) (run_equalIn_int w 9998 29 .u64 .u64 _ _ Try.underlying29) fun l h =>
    eqF_cons w _ _ _ h (by decide) (by kernel_rfl) (by kernel_rfl) (run_equalIn_string w 9998 9 _ _ Try.underlying9) fun l h =>
    eqF_cons w _ _ _ h (by decide) (by kernel_rfl) (by kernel_rfl) (run_equalIn_int w 9998 3 .i64 .i64 _ _ Try.underlying3) fun l h => eqF_nil w _ _ _ h
theorem neq_ent (k n : Int) (t : ByteArray) (w : World) : (binOp .neq 37 (.agg #[.int .u64 k, .string t, .int .i64 n]) (.agg #[.int .u64 k, .string t, .int .i64 n])).run Try.prog w = .ok (.bool false) w := by
  rw [run_neq_struct, eq_ent]
  simp
theorem guard_ent (x y : Operand) (a b : Array Value) (w : World) : (eqGuard .neq 37 x y (.agg a) (.agg b)).run Try.prog w = .ok () w := run_eqGuard_agg w .neq 37 x y a b (by kernel_rfl)

set_option maxRecDepth 100000 in
set_option maxHeartbeats 400000 in
theorem same24 (L : List Ent) (hL : L.length ≤ 900) (p B lim : Nat) (v : Value) (a : Option Addr) (c B2 : Nat) (w : World) (h : KeysAt w p B lim L v) (hown : w.ownsRow B2 35 3 (.slice a L.length c) L.length (L.flatMap entC)) :
    Calls Try.prog 11 #[.pointer (some ⟨p, 0, none⟩), .slice a L.length c] w fun e w' => e = .returned (.bool true) ∧ Below w.heap.size w w' := by
  have HLI := hide (list24_any L (by omega) p B lim v w h)
  have OM := hide hown
  clear h hown
  go_enter Try.func11, Try.ntmps11
  go_wp2_with fail
  refine HLI.out.mono ?_
  rintro e w1 ⟨ga, gc, rfl, ho, hb⟩
  have OG := hide ho
  have OM1 := hide (owns_below OM.out hb)
  have B1 := hide hb
  clear ho hb
  go_wp2_with fail
  go_loopw [16] (fun i W => ∃ k : Nat, k ≤ L.length ∧ i = .int .i64 k ∧ W.ownsRow w.heap.size 37 3 (.slice ga L.length gc) L.length (L.flatMap entC) ∧ W.ownsRow B2 35 3 (.slice a L.length c) L.length (L.flatMap entC) ∧ Below w.heap.size w W) (fun i _ => L.length - (intOf i).toNat)
  case atStart => exact ⟨0, by omega, rfl, OG.out, OM1.out, B1.out⟩
  case round =>
    obtain ⟨k, hk, rfl, h1, h2, hB⟩ := hrel
    have O1 := hide h1
    have O2 := hide h2
    have B2' := hide hB
    clear h1 h2 hB
    by_cases hlt : k < L.length
    · obtain ⟨g1, rfl, _, c0, c1, c2⟩ := ents_atT O1.out k hlt
      obtain ⟨g2, rfl, _, d0, d1, d2⟩ := ents_atT O2.out k hlt
      generalize L.getD k ent0 = x at *
      obtain ⟨xk, xb, xn⟩ := x
      dsimp only at *
      have hne := neq_ent xk xn xb
      have hgd := guard_ent
      go_wp2_with fail
      go_quiet (fail)
      clear c0 c1 c2 d0 d1 d2 hne hgd
      go_wp2_with fail
      go_roundw
      case rel => exact ⟨k + 1, by omega, by go_num, O1.out, O2.out, ⟨B2'.out.os, B2'.out.tape, B2'.out.output, B2'.out.size, B2'.out.block⟩⟩
      case measure => simp [intOf]; omega
    · obtain rfl : k = L.length := by omega
      go_wp2_with fail
      go_ret
      exact ⟨rfl, B2'.out⟩

/-- the document's fields of entries -/
def entFd (x : Ent) : List Fld := [⟨0, 8, x.k, ⟨#[]⟩⟩, ⟨2, 0, 0, x.b⟩, ⟨0, 4, x.n, ⟨#[]⟩⟩]
def keysF (L : List Ent) : List Fld := ⟨0, 1, (L.length : Int), ⟨#[]⟩⟩ :: L.flatMap entFd
theorem entsFd_len : ∀ L : List Ent, (L.flatMap entFd).length = 3 * L.length
  | [] => rfl
  | x :: L => by rw [List.flatMap_cons, List.length_append, entsFd_len L, List.length_cons]; simp [entFd]; omega
theorem fold_ents : ∀ (L : List Ent) (l : List UInt8), (∀ x ∈ L, GoodE x) → (L.flatMap entFd).foldl (fun z x => wrF z.1 z.2 x) (l, false) = (l ++ L.flatMap entT, false)
  | [], l, _ => by simp
  | x :: L, l, h => by
    obtain ⟨⟨k0, k1⟩, hb, n0, n1⟩ := h x (by simp)
    have hf := fits_key x.k k0 k1
    have hn := fits_num x.n n1
    have ih := fold_ents L (l ++ entT x) (fun y hy => h y (by simp [hy]))
    rw [List.flatMap_cons, List.foldl_append]
    have e : (entFd x).foldl (fun z x => wrF z.1 z.2 x) (l, false) = (l ++ entT x, false) := by
      simp only [entFd, List.foldl_cons, List.foldl_nil, wrF]
      simp only [if_true, show ¬ ((2 : Int) = 0) by decide, show ¬ ((2 : Int) = 1) by decide, if_false, hf, hn, decide_eq_true hb, wrL_tt, wrB_tt]
      simp [entT, List.append_assoc]
    rw [e, ih]
    simp [List.append_assoc]
theorem wrFs_keys (L : List Ent) (hL : L.length ≤ 255) (h : ∀ x ∈ L, GoodE x) : wrFs (keysF L) = (keysT L, false) := by
  have hf := fits_len L.length hL
  unfold wrFs keysF keysT
  have e : wrF [] false ⟨0, 1, (L.length : Int), ⟨#[]⟩⟩ = (putS (L.length : Int) 1, false) := by
    simp only [wrF, if_true, hf, wrL_tt, wrB_tt, List.nil_append]
  rw [List.foldl_cons]
  show List.foldl _ (wrF [] false ⟨0, 1, (L.length : Int), ⟨#[]⟩⟩) _ = _
  rw [e, fold_ents L _ h]
theorem keysF_good (L : List Ent) (hL : L.length ≤ 255) (h : ∀ x ∈ L, GoodE x) : ∀ f ∈ keysF L, FldGood f := by
  intro f hf
  rcases List.mem_cons.1 hf with rfl | hf
  · exact ⟨by dsimp only; omega, by dsimp only; omega, by dsimp only; omega, by show (0 : Nat) ≤ 300; omega⟩
  · obtain ⟨x, hx, hf⟩ := List.mem_flatMap.1 hf
    obtain ⟨⟨k0, k1⟩, hb, n0, n1⟩ := h x hx
    simp only [entFd, List.mem_cons, List.not_mem_nil, or_false] at hf
    rcases hf with rfl | rfl | rfl
    · exact ⟨by dsimp only; omega, by dsimp only; omega, ⟨k0, k1⟩, by show (0 : Nat) ≤ 300; omega⟩
    · exact ⟨by dsimp only; omega, by dsimp only; omega, by dsimp only; omega, by dsimp only; omega⟩
    · exact ⟨by dsimp only; omega, by dsimp only; omega, by dsimp only; omega, by show (0 : Nat) ≤ 300; omega⟩
theorem fc_one (x : Fld) : ∀ u ∈ fc x, u.oneCell' = true := by
  intro u hu
  simp only [fc, List.mem_cons, List.not_mem_nil, or_false] at hu
  rcases hu with rfl | rfl | rfl | rfl <;> rfl
theorem fld_next (L : List Ent) (k : Nat) (h : k < L.length) : (L.take (k + 1)).flatMap entFd = (L.take k).flatMap entFd ++ entFd (L.getD k ent0) := by
  rw [List.take_succ_eq_append_getElem h, List.flatMap_append]
  simp [List.getD, h]
set_option maxRecDepth 100000 in
set_option maxHeartbeats 1000000 in
theorem rtext24 (L : List Ent) (hL : L.length ≤ 64) (hG : ∀ x ∈ L, GoodE x) (a : Option Addr) (c B : Nat) (w : World) (hown : w.ownsRow B 35 3 (.slice a L.length c) L.length (L.flatMap entC)) :
    Calls Try.prog 16 #[.slice a L.length c] w fun e w' => e = .returned (.string (bs (keysT L))) ∧ Below w.heap.size w w' := by
  obtain ⟨i0, hi, hz0, hz1, hz2⟩ := info_parts (show (Try.prog.info? 65).map (fun i => (i.zero, i.size, i.bytes)) = some (some (.agg #[.int .i64 0, .int .i64 0, .int .u64 0, .string ⟨#[]⟩]), 4, 40) by kernel_rfl)
  have HI := hide hi
  have HZ0 := hide hz0
  have HZ1 := hide hz1
  have HZ2 := hide hz2
  have HGG := hide (fun k hk => hG _ (getE_mem L k hk))
  have HNX := hide (fun k hk => fld_next L k hk)
  have hkl : (keysF L).length = 1 + 3 * L.length := by rw [keysF, List.length_cons, entsFd_len]; omega
  have HKL := hide hkl
  have HRW := hide (fun a cap W hF => refWrite_any (keysF L) (by omega) (keysF_good L (by omega) hG) a cap W hF)
  have HRS := hide (show refS (keysF L) = bs (keysT L) by rw [refS, wrFs_keys L (by omega) hG]; rfl)
  have HRB := hide (show (wrFs (keysF L)).2 = false by rw [wrFs_keys L (by omega) hG])
  have hlw : IntKind.u64.wrap (L.length : Int) = (L.length : Int) := by rw [IntKind.wrap_u64]; omega
  have OD := hide hown
  clear hi hz0 hz1 hz2 hG hown hkl
  have OWS := hide (World.ownsRow_made (base := w.heap.size) (e := 65) (size := 4) w #[] 0 (Nat.le_refl _) (Nat.zero_le _) (by simp))
  have OW0 := hide (show (w.alloc (.cells #[.int .i64 0, .int .i64 1, .int .u64 (L.length : Int), .string ⟨#[]⟩] 65)).ownsRow w.heap.size 65 4 (.slice (some ⟨w.heap.size, 0, none⟩) 1 1) 1 ([Fld.mk 0 1 (L.length : Int) ⟨#[]⟩].flatMap fc) from ⟨rfl, .inr ⟨w.heap.size, 1, _, rfl, Nat.le_refl _, heap_new w _, Nat.le_refl _, by unfold maxLen; omega, rfl, rfl⟩⟩)
  have OD0 := hide (OD.out.alloc (.cells #[.int .i64 0, .int .i64 1, .int .u64 (L.length : Int), .string ⟨#[]⟩] 65))
  have BL0 := hide ((Below.refl w.heap.size w).alloc (Nat.le_refl _) (.cells #[.int .i64 0, .int .i64 1, .int .u64 (L.length : Int), .string ⟨#[]⟩] 65))
  go_enter Try.func16, Try.ntmps16
  go_wp2_with fail
  go_loopw [3, 4] (fun f i W => ∃ (k : Nat) (af : Option Addr) (cf : Nat), k ≤ L.length ∧ i = .int .i64 k ∧ f = .slice af (1 + 3 * k) cf ∧ W.ownsRow w.heap.size 65 4 (.slice af (1 + 3 * k) cf) (1 + 3 * k) ((⟨0, 1, (L.length : Int), ⟨#[]⟩⟩ :: (L.take k).flatMap entFd).flatMap fc) ∧ W.ownsRow B 35 3 (.slice a L.length c) L.length (L.flatMap entC) ∧ Below w.heap.size w W) (fun _ i _ => L.length - (intOf i).toNat)
  case atStart => exact ⟨0, _, _, by omega, rfl, rfl, OW0.out, OD0.out, BL0.out⟩
  case round =>
    obtain ⟨k, af, cf, hk, rfl, rfl, h1, h2, hB⟩ := hrel
    have OWF := hide h1
    have ODF := hide h2
    have BLF := hide hB
    clear h1 h2 hB
    by_cases hlt : k < L.length
    · obtain ⟨g, rfl, hg, d0, d1, d2⟩ := ents_atT ODF.out k hlt
      have hgd := HGG.out k hlt
      have HN := hide (HNX.out k hlt)
      have HAT := hide (fun (W : World) (hW : W.ownsRow B 35 3 (.slice (some ⟨g, 0, none⟩) L.length c) L.length (L.flatMap entC)) => ents_atT hW k hlt)
      generalize L.getD k ent0 = x at *
      obtain ⟨xk, xb, xn⟩ := x
      obtain ⟨⟨g0, g1⟩, g2, g3, g4⟩ := hgd
      dsimp only at *
      have hnw : IntKind.u64.wrap xn = xn := by rw [IntKind.wrap_u64]; omega
      generalize hm : ((⟨0, 1, (L.length : Int), ⟨#[]⟩⟩ :: (L.take k).flatMap entFd) : List Fld) = m at *
      have HM := hide hm
      obtain ⟨n, hn⟩ : ∃ n, 1 + 3 * k = n := ⟨_, rfl⟩
      have HNN := hide hn
      rw [hn] at OWF
      simp only [hn]
      have hnb : n ≤ 193 := by omega
      clear hm hn
      have HA := hide (OWF.out.alloc (.cells #[.int .i64 0, .int .i64 8, .int .u64 xk, .string ⟨#[]⟩] 65))
      have ODA := hide (ODF.out.alloc (.cells #[.int .i64 0, .int .i64 8, .int .u64 xk, .string ⟨#[]⟩] 65))
      have HBA := hide (BLF.out.alloc BLF.out.size (.cells #[.int .i64 0, .int .i64 8, .int .u64 xk, .string ⟨#[]⟩] 65))
      have HW5 := hide (show w.heap.size ≤ (wr.alloc (.cells #[.int .i64 0, .int .i64 8, .int .u64 xk, .string ⟨#[]⟩] 65)).heap.size from HBA.out.size)
      have HNEW := hide (heap_new wr (.cells #[.int .i64 0, .int .i64 8, .int .u64 xk, .string ⟨#[]⟩] 65))
      have HGE := hide (fun j (h : (Value.slice af n cf).ownBlock = some j) => (HA.out.lt j h).1)
      go_upto_region 6 with (at_builtin; refine wpList_append_own _ rfl _ _ 66 rfl w.heap.size 65 i0 (.agg #[.int .i64 0, .int .i64 0, .int .u64 0, .string ⟨#[]⟩]) 4 40 Try.underlying66 HI.out HZ0.out HZ1.out HZ2.out rfl (by decide) (.slice af n cf) n (m.flatMap fc) rfl HA.out ⟨wr.heap.size, 0, none⟩ 1 1 [.int .i64 0, .int .i64 8, .int .u64 xk, .string ⟨#[]⟩] rfl rfl (cells_new HNEW.out) (fc_one ⟨0, 8, xk, ⟨#[]⟩⟩) (by unfold maxLen; omega) (by omega) HW5.out ?_; intro v' u1 ho hgr hnil; obtain ⟨a1, c1, rfl⟩ := owns_slice_n ho; have OW1 := hide ho; have BL1 := hide (HBA.out.grown hgr HBA.out.size HGE.out); have OD1 := hide ((KeepsT.grown (Ts := [65]) HA.out (by simp) hgr).owns ODA.out (by decide)); clear ho hgr hnil HA HBA HW5 HNEW HGE ODA)
      obtain ⟨g', hg', _, e0, e1, e2⟩ := HAT.out _ OD1.out
      obtain rfl : g = g' := by cases hg'; rfl
      clear d0 d1 d2 e0 e2 hg'
      have OX1 := hide (show u1.ownsRow w.heap.size 65 4 (.slice a1 (n + 1) c1) (n + 1) ((m ++ [Fld.mk 0 8 xk ⟨#[]⟩]).flatMap fc) by rw [List.flatMap_append]; exact OW1.out)
      have HA := hide (OX1.out.alloc (.cells #[.int .i64 2, .int .i64 0, .int .u64 0, .string xb] 65))
      have ODA := hide (OD1.out.alloc (.cells #[.int .i64 2, .int .i64 0, .int .u64 0, .string xb] 65))
      have HBA := hide (BL1.out.alloc BL1.out.size (.cells #[.int .i64 2, .int .i64 0, .int .u64 0, .string xb] 65))
      have HW5 := hide (show w.heap.size ≤ (u1.alloc (.cells #[.int .i64 2, .int .i64 0, .int .u64 0, .string xb] 65)).heap.size from HBA.out.size)
      have HNEW := hide (heap_new u1 (.cells #[.int .i64 2, .int .i64 0, .int .u64 0, .string xb] 65))
      have HGE := hide (fun j (h : (Value.slice a1 (n + 1) c1).ownBlock = some j) => (HA.out.lt j h).1)
      go_upto_region 7 with (at_builtin; refine wpList_append_own _ rfl _ _ 66 rfl w.heap.size 65 i0 (.agg #[.int .i64 0, .int .i64 0, .int .u64 0, .string ⟨#[]⟩]) 4 40 Try.underlying66 HI.out HZ0.out HZ1.out HZ2.out rfl (by decide) (.slice a1 (n + 1) c1) (n + 1) ((m ++ [Fld.mk 0 8 xk ⟨#[]⟩]).flatMap fc) rfl HA.out ⟨u1.heap.size, 0, none⟩ 1 1 [.int .i64 2, .int .i64 0, .int .u64 0, .string xb] rfl rfl (cells_new HNEW.out) (fc_one ⟨2, 0, 0, xb⟩) (by unfold maxLen; omega) (by omega) HW5.out ?_; intro v' u2 ho hgr hnil; obtain ⟨a2, c2, rfl⟩ := owns_slice_n ho; have OW2 := hide ho; have BL2 := hide (HBA.out.grown hgr HBA.out.size HGE.out); have OD2 := hide ((KeepsT.grown (Ts := [65]) HA.out (by simp) hgr).owns ODA.out (by decide)); clear ho hgr hnil HA HBA HW5 HNEW HGE ODA)
      obtain ⟨g', hg', _, e0, e1', e2⟩ := HAT.out _ OD2.out
      obtain rfl : g = g' := by cases hg'; rfl
      clear e0 e1 e1' hg'
      have OX2 := hide (show u2.ownsRow w.heap.size 65 4 (.slice a2 (n + 1 + 1) c2) (n + 1 + 1) ((m ++ [Fld.mk 0 8 xk ⟨#[]⟩] ++ [Fld.mk 2 0 0 xb]).flatMap fc) by rw [List.flatMap_append]; exact OW2.out)
      have HA := hide (OX2.out.alloc (.cells #[.int .i64 0, .int .i64 4, .int .u64 xn, .string ⟨#[]⟩] 65))
      have ODA := hide (OD2.out.alloc (.cells #[.int .i64 0, .int .i64 4, .int .u64 xn, .string ⟨#[]⟩] 65))
      have HBA := hide (BL2.out.alloc BL2.out.size (.cells #[.int .i64 0, .int .i64 4, .int .u64 xn, .string ⟨#[]⟩] 65))
      have HW5 := hide (show w.heap.size ≤ (u2.alloc (.cells #[.int .i64 0, .int .i64 4, .int .u64 xn, .string ⟨#[]⟩] 65)).heap.size from HBA.out.size)
      have HNEW := hide (heap_new u2 (.cells #[.int .i64 0, .int .i64 4, .int .u64 xn, .string ⟨#[]⟩] 65))
      have HGE := hide (fun j (h : (Value.slice a2 (n + 1 + 1) c2).ownBlock = some j) => (HA.out.lt j h).1)
      go_wp2_with (at_builtin; refine wpList_append_own _ rfl _ _ 66 rfl w.heap.size 65 i0 (.agg #[.int .i64 0, .int .i64 0, .int .u64 0, .string ⟨#[]⟩]) 4 40 Try.underlying66 HI.out HZ0.out HZ1.out HZ2.out rfl (by decide) (.slice a2 (n + 1 + 1) c2) (n + 1 + 1) ((m ++ [Fld.mk 0 8 xk ⟨#[]⟩] ++ [Fld.mk 2 0 0 xb]).flatMap fc) rfl HA.out ⟨u2.heap.size, 0, none⟩ 1 1 [.int .i64 0, .int .i64 4, .int .u64 xn, .string ⟨#[]⟩] rfl rfl (cells_new HNEW.out) (fc_one ⟨0, 4, xn, ⟨#[]⟩⟩) (by unfold maxLen; omega) (by omega) HW5.out ?_; intro v' u3 ho hgr hnil; obtain ⟨a3, c3, rfl⟩ := owns_slice_n ho; have OW3 := hide ho; have BL3 := hide (HBA.out.grown hgr HBA.out.size HGE.out); have OD3 := hide ((KeepsT.grown (Ts := [65]) HA.out (by simp) hgr).owns ODA.out (by decide)); clear ho hgr hnil HA HBA HW5 HNEW HGE ODA)
      go_roundw
      case rel =>
        have hnn := HNN.out
        have e3 : 1 + 3 * (k + 1) = n + 1 + 1 + 1 := by omega
        refine ⟨k + 1, a3, c3, by omega, by go_num, by rw [e3], ?_, OD3.out, BL3.out⟩
        rw [e3, HN.out]
        have ho := OW3.out
        rw [← HM.out] at ho
        simpa [entFd, fc, List.append_assoc] using ho
      case measure => simp [intOf]; omega
    · obtain rfl : k = L.length := by omega
      have ho := OWF.out
      rw [List.take_length, show ((⟨0, 1, (L.length : Int), ⟨#[]⟩⟩ :: L.flatMap entFd) : List Fld) = keysF L from rfl, ← HKL.out] at ho
      have HF := hide (show FldsAt wr wr.heap.size af (keysF L) from fun i hi => by
        obtain ⟨g, h1, _, h3, h4⟩ := owns_rows fc fc_length fld0 ho i hi
        exact ⟨g, h1, h3, h4⟩)
      have hkl := HKL.out
      have HRF := hide (HRW.out af cf wr HF.out)
      rw [hkl, HRS.out, HRB.out] at HRF
      clear ho hkl
      go_wp2_with fail
      refine HRF.out.mono ?_
      rintro e w9 ⟨rfl, hb⟩
      have B9 := hide (below_trans BLF.out hb)
      clear hb
      go_wp2_with fail
      go_ret
      exact ⟨rfl, B9.out⟩
end Go.Proofs.Ytmomjefbifoliaa
