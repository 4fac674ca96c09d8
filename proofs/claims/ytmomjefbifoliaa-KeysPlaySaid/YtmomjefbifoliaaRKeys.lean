/-
  Layer 24: the document's find, Match and Put by contract.
-/
import Derived.Test.YtmomjefbifoliaaKeys8
--import Derived.Test.Zdbg
namespace Go.Proofs.Ytmomjefbifoliaa
set_option linter.unusedSimpArgs false
set_option linter.unusedVariables false
open Go.RowKit Go.WideShapes Go.ChangeShapes Go.ChangeAt

theorem ents_atT {T : TypeId} {w : World} {B : Nat} {a : Option Addr} {c : Nat} {L : List Ent} (h : w.ownsRow B T 3 (.slice a L.length c) L.length (L.flatMap entC)) (i : Nat) (hi : i < L.length) :
    ∃ g, a = some ⟨g, 0, none⟩ ∧ g < w.heap.size ∧ w.cell? ⟨g, i * 3, none⟩ = some (.int .u64 (L.getD i ent0).k) ∧ w.cell? ⟨g, i * 3 + 1, none⟩ = some (.string (L.getD i ent0).b) ∧ w.cell? ⟨g, i * 3 + 2, none⟩ = some (.int .i64 (L.getD i ent0).n) := by
  obtain ⟨g, ha, _, hg, hc⟩ := owns_rows entC entC_length ent0 h i hi
  exact ⟨g, ha, hg, hc 0 (by omega), hc 1 (by omega), hc 2 (by omega)⟩
set_option maxRecDepth 100000 in
theorem rfind_any (L : List Ent) (hL : L.length ≤ 1000) (a : Option Addr) (c B : Nat) (key : Int) (w : World) (hown : w.ownsRow B 35 3 (.slice a L.length c) L.length (L.flatMap entC)) :
    Calls Try.prog 18 #[.slice a L.length c, .int .u64 key] w fun e w' => e = .returned (.int .i64 (keyI L key)) ∧ w = w' := by
  have HAT := hide (fun i hi => ents_atT hown i hi)
  have HF := hide (fun k h1 h2 h3 => keyI_found L key k h1 h2 h3)
  have HN := hide (keyI_none L key)
  clear hown
  go_enter Try.func18, Try.ntmps18
  go_wp2_with fail
  go_loop [5] (fun i => ∃ k : Nat, k ≤ L.length ∧ i = .int .i64 k ∧ (∀ j, j < k → (L.getD j ent0).k ≠ key)) (fun i => L.length - (intOf i).toNat)
  case atStart => exact ⟨0, by omega, rfl, fun j hj => by omega⟩
  case round =>
    obtain ⟨k, hk, rfl, hno⟩ := hrel
    have HNO := hide hno
    clear hno
    by_cases hlt : k < L.length
    · obtain ⟨g, rfl, hg, d0, d1, d2⟩ := HAT.out k hlt
      have HFK := hide (HF.out k hlt)
      by_cases hx : (L.getD k ent0).k = key
      · have HV := hide (HFK.out hx HNO.out)
        rw [hx] at d0
        clear hx d1 d2
        go_wp2_with fail
        go_ret
        exact ⟨ret_int HV.out.symm, rfl⟩
      · have HX := hide (show ∀ j, j < k + 1 → (L.getD j ent0).k ≠ key from fun j hj => by
          by_cases e : j = k
          · subst e; exact hx
          · exact HNO.out j (by omega))
        clear d1 d2
        generalize (L.getD k ent0).k = z at *
        have hnb : (z == key) = false := by simpa using hx
        clear hx
        go_wp2_with fail
        go_round
        case rel => exact ⟨k + 1, by omega, by go_num, HX.out⟩
        case measure => simp [intOf]; omega
    · obtain rfl : k = L.length := by omega
      go_wp2_with fail
      go_ret
      exact ⟨ret_int (HN.out HNO.out).symm, rfl⟩
set_option maxRecDepth 100000 in
theorem rmatch_any (L : List Ent) (hL : L.length ≤ 1000) (a : Option Addr) (c B : Nat) (key : Int) (b : ByteArray) (w : World) (hown : w.ownsRow B 35 3 (.slice a L.length c) L.length (L.flatMap entC)) :
    Calls Try.prog 13 #[.slice a L.length c, .int .u64 key, .string b] w fun e w' => e = .returned (.tuple #[.int .i64 (matchV L key b), .int .i64 (matchE L key b)]) ∧ w = w' := by
  have HFI := hide (rfind_any L hL a c B key w hown)
  rcases keyI_cases L key with ⟨e1, _⟩ | ⟨k, hk, e1, _⟩
  · have HV := hide (show matchV L key b = 0 ∧ matchE L key b = 15 by unfold matchV matchE; rw [e1]; exact ⟨rfl, rfl⟩)
    rw [e1] at HFI
    clear e1 hown
    go_enter Try.func13, Try.ntmps13
    go_wp2_with fail
    refine HFI.out.mono ?_
    rintro e w1 ⟨rfl, rfl⟩
    go_wp2_with fail
    go_ret2
    exact ⟨ret_ii HV.out, rfl⟩
  · obtain ⟨g, rfl, hg, d0, d1, d2⟩ := ents_atT hown k hk
    rw [e1] at HFI
    have h0 : ¬ (k : Int) < 0 := by omega
    have hki : (k : Int) < (L.length : Int) := by omega
    obtain ⟨x, hx⟩ : ∃ x, L.getD k ent0 = x := ⟨_, rfl⟩
    rw [hx] at d0 d1 d2
    by_cases hb : x.b = b
    · have HV := hide (show matchV L key b = x.n ∧ matchE L key b = 0 by unfold matchV matchE; rw [e1, if_neg h0, if_neg h0, Int.toNat_natCast, hx, if_pos hb, if_pos hb]; exact ⟨rfl, rfl⟩)
      rw [hb] at d1
      clear e1 hown hb hx d0
      obtain ⟨xk, xb, xn⟩ := x
      dsimp only at *
      go_enter Try.func13, Try.ntmps13
      go_wp2_with fail
      refine HFI.out.mono ?_
      rintro e w1 ⟨rfl, rfl⟩
      go_wp2_with fail
      go_ret2
      exact ⟨ret_ii HV.out, rfl⟩
    · have HV := hide (show matchV L key b = 0 ∧ matchE L key b = 17 by unfold matchV matchE; rw [e1, if_neg h0, if_neg h0, Int.toNat_natCast, hx, if_neg hb, if_neg hb]; exact ⟨rfl, rfl⟩)
      have hne := str_ne' hb
      clear e1 hown hx hb d0
      obtain ⟨xk, xb, xn⟩ := x
      dsimp only at *
      go_enter Try.func13, Try.ntmps13
      go_wp2_with fail
      refine HFI.out.mono ?_
      rintro e w1 ⟨rfl, rfl⟩
      go_wp2_with fail
      go_ret2
      exact ⟨ret_ii HV.out, rfl⟩

instance (x : Ent) : Decidable (rightE x) := by unfold rightE; infer_instance
theorem owns_base {w : World} {B B' e n m : Nat} {v : Value} {xs : List Value} (h : w.ownsRow B' e m v n xs) (hB : B ≤ B') : w.ownsRow B e m v n xs := by
  refine ⟨h.1, ?_⟩
  rcases h.2 with h3 | ⟨g, cap', cur, hv, hg, h4⟩
  · exact .inl h3
  · exact .inr ⟨g, cap', cur, hv, Nat.le_trans hB hg, h4⟩
theorem ret_tt {v v' u u' : Value} (h1 : v = v') (h2 : u = u') : Ending.returned (.tuple #[v, u]) = .returned (.tuple #[v', u']) := by rw [h1, h2]
/-- what Put leaves, and what it tells -/
def putA (L : List Ent) (lim : Nat) (x : Ent) : List Ent := if rightE x ∧ keyI L x.k < 0 then putL' L lim x else L
def putE (L : List Ent) (x : Ent) : Int := if rightE x then (if keyI L x.k < 0 then 0 else 16) else 2
/-- the document's Put's turn -/
def RPutIs (B : Nat) (L' : List Ent) (k : Int) (w : World) (e : Ending) (w' : World) : Prop := ∃ (a : Option Addr) (c : Nat), e = .returned (.tuple #[.slice a L'.length c, .int .i64 k]) ∧ w'.ownsRow B 35 3 (.slice a L'.length c) L'.length (L'.flatMap entC) ∧ Below w.heap.size w w'
theorem putL_drop (L : List Ent) (lim : Nat) (x : Ent) (h1 : 1 ≤ lim) (hl : L.length ≤ lim) : putL' L lim x = L.drop (L.length + 1 - lim) ++ [x] := by
  rw [putL']
  by_cases h : L.length + 1 - lim = 0
  · rw [h, List.drop_zero, List.drop_zero]
  · rw [List.drop_append_of_le_length (by omega)]
theorem part_next (L : List Ent) (d k : Nat) (hd : d ≤ k) (h : k < L.length) : (L.take (k + 1)).drop d = (L.take k).drop d ++ [L.getD k ent0] := by
  rw [List.take_succ_eq_append_getElem h, List.drop_append_of_le_length (by rw [List.length_take]; omega)]
  simp [List.getD, h]
set_option maxRecDepth 100000 in
set_option maxHeartbeats 400000 in
theorem rput_ok (L : List Ent) (hL : L.length ≤ 900) (lim : Nat) (h1 : 1 ≤ lim) (hl : L.length ≤ lim) (hlim : lim ≤ 1000) (x : Ent) (hx : rightE x) (hnew : keyI L x.k < 0) (a : Option Addr) (c B : Nat) (w : World) (hB : B ≤ w.heap.size) (hown : w.ownsRow B 35 3 (.slice a L.length c) L.length (L.flatMap entC)) :
    Calls Try.prog 9 #[.slice a L.length c, .int .i64 (lim : Int), .agg #[.int .u64 x.k, .string x.b, .int .i64 x.n]] w (RPutIs B (putL' L lim x) 0 w) := by
  obtain ⟨i0, hi, hz0, hz1, hz2⟩ := info_parts (show (Try.prog.info? 35).map (fun i => (i.zero, i.size, i.bytes)) = some (some (.agg #[.int .u64 0, .string ⟨#[]⟩, .int .i64 0]), 3, 32) by kernel_rfl)
  have HI := hide hi
  have HZ0 := hide hz0
  have HZ1 := hide hz1
  have HZ2 := hide hz2
  have HEQ := hide (putL_drop L lim x h1 hl)
  obtain ⟨d, hd⟩ : ∃ d, L.length + 1 - lim = d := ⟨_, rfl⟩
  have hd1 : d ≤ 1 := by omega
  have hdL : d ≤ L.length := by omega
  rw [hd] at HEQ
  have HXK := hide (fun W (hW : W.ownsRow B 35 3 (.slice a L.length c) L.length (L.flatMap entC)) => rfind_any L (by omega) a c B x.k W hW)
  have HNP := hide (fun k hk h => part_next L d k hk h)
  have HBS := hide hB
  have HOW := hide hown
  have HNEG := hide hnew
  obtain ⟨xk, xb, xn⟩ := x
  obtain ⟨x1, x2, x3⟩ := hx
  dsimp only at *
  have hxs : (xb.size : Int) ≤ 255 := by omega
  have hlen : (L.drop d ++ [Ent.mk xk xb xn]).length = L.length - d + 1 := by simp
  have HLEN := hide hlen
  have hdi : d = 0 → (L.length : Int) < (lim : Int) := by omega
  have hdi1 : d = 1 → ¬ (L.length : Int) < (lim : Int) := by omega
  have HDI := hide hdi
  have HDI1 := hide hdi1
  clear hi hz0 hz1 hz2 hB hown hnew hlen hdi hdi1 hd
  generalize keyI L xk = r at *
  have hneg := HNEG.out
  go_enter Try.func9, Try.ntmps9
  go_wp2_with fail
  have EB0 := hide (heap_new w (.cells #[.int .u64 xk, .string xb, .int .i64 xn] 35))
  have OW0 := hide (HOW.out.alloc (.cells #[.int .u64 xk, .string xb, .int .i64 xn] 35))
  have BL0 := hide ((Below.refl w.heap.size w).alloc (Nat.le_refl _) (.cells #[.int .u64 xk, .string xb, .int .i64 xn] 35))
  have HSZ := hide (show (w.alloc (.cells #[.int .u64 xk, .string xb, .int .i64 xn] 35)).heap.size = w.heap.size + 1 by simp)
  have HBB := hide (show B ≤ w.heap.size + 1 from Nat.le_trans HBS.out (Nat.le_succ _))
  generalize w.alloc (.cells #[.int .u64 xk, .string xb, .int .i64 xn] 35) = w1 at *
  refine (HXK.out _ OW0.out).mono ?_
  rintro e w' ⟨rfl, rfl⟩
  have hlx : (lim : Int) ≤ 1000 := by omega
  go_wp2_with fail
  have HB1 := hide (show w1.heap.size = w.heap.size + 1 from HSZ.out)
  generalize w.heap.size + 1 = b1 at *
  go_loopw [9, 10] (fun o i W => ∃ (k : Nat) (ao : Option Addr) (co : Nat), k ≤ L.length ∧ i = .int .i64 k ∧ o = .slice ao (k - d) co ∧ W.ownsRow b1 35 3 (.slice ao (k - d) co) (k - d) (((L.take k).drop d).flatMap entC) ∧ Below b1 w1 W) (fun _ i _ => L.length - (intOf i).toNat)
  case atStart => exact ⟨0, none, 0, by omega, rfl, by rw [Nat.zero_sub], by rw [Nat.zero_sub]; simpa using World.ownsRow_nil _ _ _ _, Below.refl _ _⟩
  case round =>
    obtain ⟨k, ao, co, hk, rfl, rfl, ho, hB⟩ := hrel
    have OR := hide ho
    have BR := hide hB
    clear ho hB
    by_cases hlt : k < L.length
    · by_cases hk0 : 0 < k
      · have hdk : d ≤ k := by omega
        obtain ⟨g, rfl, hg, d0, d1, d2⟩ := ents_atT OW0.out k hlt
        have e0 := (cell_keep' BR.out (by rw [← HB1.out]; exact hg)).trans d0
        have e1 := (cell_keep' BR.out (by rw [← HB1.out]; exact hg)).trans d1
        have e2 := (cell_keep' BR.out (by rw [← HB1.out]; exact hg)).trans d2
        have HPN := hide (HNP.out k hdk hlt)
        have hkd : k + 1 - d = k - d + 1 := by omega
        have HKD := hide hkd
        clear d0 d1 d2 hkd
        generalize L.getD k ent0 = y at *
        obtain ⟨yk, yb, yn⟩ := y
        dsimp only at *
        have HOO := hide (show ((L.take (k + 1)).drop d).flatMap entC = ((L.take k).drop d).flatMap entC ++ [.int .u64 yk, .string yb, .int .i64 yn] by rw [HPN.out, List.flatMap_append]; rfl)
        have hnn : k - d ≤ 900 := by omega
        generalize hkk : k - d = nn at *
        have HKK := hide hkk
        clear hkk
        generalize ((L.take k).drop d).flatMap entC = xs at *
        have HA := hide (OR.out.alloc (.cells #[.int .u64 yk, .string yb, .int .i64 yn] 35))
        have HBA := hide (BR.out.alloc (by rw [← HB1.out]; exact BR.out.size) (.cells #[.int .u64 yk, .string yb, .int .i64 yn] 35))
        have HW5 := hide (show b1 ≤ (wr.alloc (.cells #[.int .u64 yk, .string yb, .int .i64 yn] 35)).heap.size by rw [← HB1.out]; exact HBA.out.size)
        have HNEW := hide (heap_new wr (.cells #[.int .u64 yk, .string yb, .int .i64 yn] 35))
        have HGE := hide (fun j (h : (Value.slice ao nn co).ownBlock = some j) => (HA.out.lt j h).1)
        go_wp2_with (at_builtin; refine wpList_append_own _ rfl _ _ 27 rfl b1 35 i0 (.agg #[.int .u64 0, .string ⟨#[]⟩, .int .i64 0]) 3 32 Try.underlying27 HI.out HZ0.out HZ1.out HZ2.out rfl (by decide) (.slice ao nn co) nn xs rfl HA.out ⟨wr.heap.size, 0, none⟩ 1 1 [.int .u64 yk, .string yb, .int .i64 yn] rfl rfl (cells_new HNEW.out) (entC_one ⟨yk, yb, yn⟩) (by unfold maxLen; omega) (by omega) HW5.out ?_; intro v' w' ho hgr hnil; obtain ⟨a3, c3', rfl⟩ := owns_slice_n ho; have HO6 := hide ho; have HB6 := hide (HBA.out.grown hgr HW5.out HGE.out); clear ho hgr hnil)
        go_roundw
        case rel => exact ⟨k + 1, a3, c3', by omega, by go_num, by rw [HKD.out], by rw [HKD.out, HOO.out]; exact HO6.out, HB6.out⟩
        case measure => simp [intOf]; omega
      · obtain rfl : k = 0 := by omega
        by_cases hd0 : d = 0
        · subst hd0
          have hll := HDI.out rfl
          have hdk : 0 ≤ 0 := Nat.le_refl 0
          obtain ⟨g, rfl, hg, d0, d1, d2⟩ := ents_atT OW0.out 0 hlt
          have e0 := (cell_keep' BR.out (by rw [← HB1.out]; exact hg)).trans d0
          have e1 := (cell_keep' BR.out (by rw [← HB1.out]; exact hg)).trans d1
          have e2 := (cell_keep' BR.out (by rw [← HB1.out]; exact hg)).trans d2
          have HPN := hide (HNP.out 0 hdk hlt)
          have hkd : 0 + 1 - 0 = 0 - 0 + 1 := by omega
          have HKD := hide hkd
          clear d0 d1 d2 hkd
          generalize L.getD 0 ent0 = y at *
          obtain ⟨yk, yb, yn⟩ := y
          dsimp only at *
          have HOO := hide (show ((L.take (0 + 1)).drop 0).flatMap entC = ((L.take 0).drop 0).flatMap entC ++ [.int .u64 yk, .string yb, .int .i64 yn] by rw [HPN.out, List.flatMap_append]; rfl)
          have hnn : 0 - 0 ≤ 900 := by omega
          generalize hkk : 0 - 0 = nn at *
          have HKK := hide hkk
          clear hkk
          generalize ((L.take 0).drop 0).flatMap entC = xs at *
          have HA := hide (OR.out.alloc (.cells #[.int .u64 yk, .string yb, .int .i64 yn] 35))
          have HBA := hide (BR.out.alloc (by rw [← HB1.out]; exact BR.out.size) (.cells #[.int .u64 yk, .string yb, .int .i64 yn] 35))
          have HW5 := hide (show b1 ≤ (wr.alloc (.cells #[.int .u64 yk, .string yb, .int .i64 yn] 35)).heap.size by rw [← HB1.out]; exact HBA.out.size)
          have HNEW := hide (heap_new wr (.cells #[.int .u64 yk, .string yb, .int .i64 yn] 35))
          have HGE := hide (fun j (h : (Value.slice ao nn co).ownBlock = some j) => (HA.out.lt j h).1)
          go_wp2_with (at_builtin; refine wpList_append_own _ rfl _ _ 27 rfl b1 35 i0 (.agg #[.int .u64 0, .string ⟨#[]⟩, .int .i64 0]) 3 32 Try.underlying27 HI.out HZ0.out HZ1.out HZ2.out rfl (by decide) (.slice ao nn co) nn xs rfl HA.out ⟨wr.heap.size, 0, none⟩ 1 1 [.int .u64 yk, .string yb, .int .i64 yn] rfl rfl (cells_new HNEW.out) (entC_one ⟨yk, yb, yn⟩) (by unfold maxLen; omega) (by omega) HW5.out ?_; intro v' w' ho hgr hnil; obtain ⟨a3, c3', rfl⟩ := owns_slice_n ho; have HO6 := hide ho; have HB6 := hide (HBA.out.grown hgr HW5.out HGE.out); clear ho hgr hnil)
          go_roundw
          case rel => exact ⟨0 + 1, a3, c3', by omega, by go_num, by rw [HKD.out], by rw [HKD.out, HOO.out]; exact HO6.out, HB6.out⟩
          case measure => simp [intOf]; omega
        · have hd1' : d = 1 := by omega
          have hll := HDI1.out hd1'
          subst hd1'
          go_wp2_with fail
          go_roundw
          case rel => exact ⟨1, ao, co, by omega, by go_num, rfl, by have := OR.out; simpa using this, BR.out⟩
          case measure => simp [intOf]; omega
    · obtain rfl : k = L.length := by omega
      have hor := OR.out
      rw [List.take_length] at hor
      have OR2 := hide hor
      clear hor OR
      have OR := hide OR2.out
      have hc0 := (cell_keep' BR.out (by rw [← HB1.out]; exact heap_lt EB0.out)).trans (cell_of_block EB0.out 0)
      have hc1 := (cell_keep' BR.out (by rw [← HB1.out]; exact heap_lt EB0.out)).trans (cell_of_block EB0.out 1)
      have hc2 := (cell_keep' BR.out (by rw [← HB1.out]; exact heap_lt EB0.out)).trans (cell_of_block EB0.out 2)
      have HFL := hide (show (L.drop d ++ [Ent.mk xk xb xn]).flatMap entC = (L.drop d).flatMap entC ++ [.int .u64 xk, .string xb, .int .i64 xn] by rw [List.flatMap_append]; rfl)
      generalize (L.drop d).flatMap entC = xs at *
      generalize hkk : L.length - d = nn at *
      have hnn : nn ≤ 900 := by omega
      clear hkk
      have HA := hide (OR.out.alloc (.cells #[.int .u64 xk, .string xb, .int .i64 xn] 35))
      have HBA := hide (BR.out.alloc (by rw [← HB1.out]; exact BR.out.size) (.cells #[.int .u64 xk, .string xb, .int .i64 xn] 35))
      have HW5 := hide (show b1 ≤ (wr.alloc (.cells #[.int .u64 xk, .string xb, .int .i64 xn] 35)).heap.size by rw [← HB1.out]; exact HBA.out.size)
      have HNEW := hide (heap_new wr (.cells #[.int .u64 xk, .string xb, .int .i64 xn] 35))
      have HGE := hide (fun j (h : (Value.slice ao nn co).ownBlock = some j) => (HA.out.lt j h).1)
      go_wp2_with (at_builtin; refine wpList_append_own _ rfl _ _ 27 rfl b1 35 i0 (.agg #[.int .u64 0, .string ⟨#[]⟩, .int .i64 0]) 3 32 Try.underlying27 HI.out HZ0.out HZ1.out HZ2.out rfl (by decide) (.slice ao nn co) nn xs rfl HA.out ⟨wr.heap.size, 0, none⟩ 1 1 [.int .u64 xk, .string xb, .int .i64 xn] rfl rfl (cells_new HNEW.out) (entC_one ⟨xk, xb, xn⟩) (by unfold maxLen; omega) (by omega) HW5.out ?_; intro v' w' ho hgr hnil; obtain ⟨a3, c3', rfl⟩ := owns_slice_n ho; have HO6 := hide ho; have HB6 := hide (HBA.out.grown hgr HW5.out HGE.out); clear ho hgr hnil)
      go_ret2
      refine ⟨a3, c3', ret_tt (show Value.slice a3 (nn + 1) c3' = _ by rw [HEQ.out, HLEN.out]) rfl, ?_, ?_⟩
      · rw [HEQ.out, HLEN.out, HFL.out]
        exact owns_base HO6.out HBB.out
      · exact (BL0.out.trans (HB6.out.mono (by rw [← HB1.out]; exact BL0.out.size)))

set_option maxRecDepth 100000 in
theorem rput_there (L : List Ent) (hL : L.length ≤ 900) (lim : Int) (x : Ent) (hx : rightE x) (hthere : 0 ≤ keyI L x.k) (a : Option Addr) (c B : Nat) (w : World) (hown : w.ownsRow B 35 3 (.slice a L.length c) L.length (L.flatMap entC)) :
    Calls Try.prog 9 #[.slice a L.length c, .int .i64 lim, .agg #[.int .u64 x.k, .string x.b, .int .i64 x.n]] w (RPutIs B L 16 w) := by
  have HXK := hide (fun W (hW : W.ownsRow B 35 3 (.slice a L.length c) L.length (L.flatMap entC)) => rfind_any L (by omega) a c B x.k W hW)
  obtain ⟨xk, xb, xn⟩ := x
  obtain ⟨x1, x2, x3⟩ := hx
  dsimp only at *
  have hxs : (xb.size : Int) ≤ 255 := by omega
  have OW0 := hide (hown.alloc (.cells #[.int .u64 xk, .string xb, .int .i64 xn] 35))
  have BL0 := hide ((Below.refl w.heap.size w).alloc (Nat.le_refl _) (.cells #[.int .u64 xk, .string xb, .int .i64 xn] 35))
  clear hown
  generalize keyI L xk = r at *
  go_enter Try.func9, Try.ntmps9
  go_wp2_with fail
  refine (HXK.out _ OW0.out).mono ?_
  rintro e w' ⟨rfl, rfl⟩
  go_wp2_with fail
  go_ret2
  exact ⟨a, c, rfl, OW0.out, BL0.out⟩
set_option maxRecDepth 100000 in
theorem rput_bad (L : List Ent) (lim : Int) (x : Ent) (hx : ¬ rightE x) (a : Option Addr) (c B : Nat) (w : World) (hown : w.ownsRow B 35 3 (.slice a L.length c) L.length (L.flatMap entC)) :
    Calls Try.prog 9 #[.slice a L.length c, .int .i64 lim, .agg #[.int .u64 x.k, .string x.b, .int .i64 x.n]] w (RPutIs B L 2 w) := by
  obtain ⟨xk, xb, xn⟩ := x
  unfold rightE at hx
  dsimp only at *
  have OW0 := hide (hown.alloc (.cells #[.int .u64 xk, .string xb, .int .i64 xn] 35))
  have BL0 := hide ((Below.refl w.heap.size w).alloc (Nat.le_refl _) (.cells #[.int .u64 xk, .string xb, .int .i64 xn] 35))
  clear hown
  by_cases h1 : (xb.size : Int) ≤ 255
  · by_cases h2 : 1 ≤ xn
    · have h3 : ¬ xn ≤ 4294967295 := fun h3 => hx ⟨by omega, h2, h3⟩
      clear hx
      go_enter Try.func9, Try.ntmps9
      go_wp2_with fail
      go_ret2
      exact ⟨a, c, rfl, OW0.out, BL0.out⟩
    · clear hx
      go_enter Try.func9, Try.ntmps9
      go_wp2_with fail
      go_ret2
      exact ⟨a, c, rfl, OW0.out, BL0.out⟩
  · clear hx
    go_enter Try.func9, Try.ntmps9
    go_wp2_with fail
    go_ret2
    exact ⟨a, c, rfl, OW0.out, BL0.out⟩
/-- whatever is put -/
theorem rput24 (L : List Ent) (hL : L.length ≤ 900) (lim : Nat) (h1 : 1 ≤ lim) (hl : L.length ≤ lim) (hlim : lim ≤ 1000) (x : Ent) (a : Option Addr) (c B : Nat) (w : World) (hB : B ≤ w.heap.size) (hown : w.ownsRow B 35 3 (.slice a L.length c) L.length (L.flatMap entC)) :
    Calls Try.prog 9 #[.slice a L.length c, .int .i64 (lim : Int), .agg #[.int .u64 x.k, .string x.b, .int .i64 x.n]] w (RPutIs B (putA L lim x) (putE L x) w) := by
  unfold putA putE
  by_cases hx : rightE x
  · by_cases hn : keyI L x.k < 0
    · rw [if_pos ⟨hx, hn⟩, if_pos hx, if_pos hn]
      exact rput_ok L hL lim h1 hl hlim x hx hn a c B w hB hown
    · rw [if_neg (fun h => hn h.2), if_pos hx, if_neg hn]
      exact rput_there L hL _ x hx (by omega) a c B w hown
  · rw [if_neg (fun h => hx h.1), if_neg hx]
    exact rput_bad L _ x hx a c B w hown
/-- the program's Put, likewise -/
def PutAny (p B lim : Nat) (L' : List Ent) (k : Int) (v : Value) (w : World) (e : Ending) (w' : World) : Prop :=
  ∃ v', e = .returned (.int .i64 k) ∧ KeysAt w' p B lim L' v' ∧ OnlyL (p :: v.ownBlock.toList) w w' ∧ ∀ j, v'.ownBlock = some j → v.ownBlock = some j ∨ w.heap.size ≤ j
theorem put24 (L : List Ent) (hL : L.length ≤ 900) (lim : Nat) (h1 : 1 ≤ lim) (hl : L.length ≤ lim) (hlim : lim ≤ 1000) (x : Ent) (p B : Nat) (v : Value) (w : World) (hB : B ≤ w.heap.size) (h : KeysAt w p B lim L v) :
    Calls Try.prog 10 #[.pointer (some ⟨p, 0, none⟩), .agg #[.int .u64 x.k, .string x.b, .int .i64 x.n]] w (PutAny p B lim (putA L lim x) (putE L x) v w) := by
  unfold putA putE
  by_cases hx : rightE x
  · by_cases hn : keyI L x.k < 0
    · rw [if_pos ⟨hx, hn⟩, if_pos hx, if_pos hn]
      have hm1 : keyI L x.k = -1 := by
        rcases keyI_cases L x.k with ⟨e, _⟩ | ⟨k, _, e, _⟩
        · exact e
        · omega
      refine (put_ok x.k x.n x.b hx L hL hm1 lim h1 hlim hl p B v w h hB).mono ?_
      rintro e w' ⟨v', rfl, r1, r2, r3⟩
      exact ⟨v', rfl, r1, r2, r3⟩
    · rw [if_neg (fun h => hn h.2), if_pos hx, if_neg hn]
      refine (put_there x.k x.n x.b hx L hL (by omega) p B lim v w h).mono ?_
      rintro e w' ⟨rfl, hb⟩
      exact ⟨v, rfl, h.below hb, OnlyL.of_below hb, fun j hj => .inl hj⟩
  · rw [if_neg (fun h => hx h.1), if_neg hx]
    refine (put_bad x.k x.n x.b hx p w).mono ?_
    rintro e w' ⟨rfl, hb⟩
    exact ⟨v, rfl, h.below hb, OnlyL.of_below hb, fun j hj => .inl hj⟩
end Go.Proofs.Ytmomjefbifoliaa
