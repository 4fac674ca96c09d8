/-
  Layer 21: the document's Read.
-/
import Derived.Test.YtehjhldijhoeeaaChart11

namespace Go.Proofs.Ytehjhldijhoeeaa
set_option linter.unusedSimpArgs false
set_option linter.unusedVariables false
open Go.RowKit Go.WideShapes Go.ChangeShapes Go.ChangeAt Go.Deep
theorem get_bs (t : List UInt8) (i : Nat) (h : i < (bs t).size) : (bs t)[i]'h = t.getD i 0 := by
  have h' : i < t.length := h
  have e : t.getD i 0 = t[i] := by simp [List.getD, h']
  rw [e]; rfl
theorem drop_getD (t : List UInt8) (a i : Nat) : (t.drop a).getD i 0 = t.getD (a + i) 0 := by simp [List.getD]
/-- an account of bytes, byte by byte -/
theorem acR_at (t : List UInt8) (a : Nat) (h : hasA (t.drop a)) : acR (t.drop a) = ⟨256 * ((t.getD a 0).toNat : Int) + ((t.getD (a + 1) 0).toNat : Int), ((t.getD (a + 2) 0).toNat : Int), (bs t).extract (a + 4) (a + 4 + (t.getD (a + 3) 0).toNat)⟩ := by
  obtain ⟨h1, h2⟩ := h
  have hl : (t.drop a).length = t.length - a := List.length_drop
  unfold acR
  rw [drop_getD, drop_getD]
  congr 1
  · have e : (t.drop a).take 2 = [t.getD a 0, t.getD (a + 1) 0] := by
      have a0 : a < t.length := by omega
      have a1 : a + 1 < t.length := by omega
      rw [List.drop_eq_getElem_cons a0, List.drop_eq_getElem_cons a1]
      show [t[a], t[a + 1]] = _
      rw [show t.getD a 0 = t[a] by simp [List.getD, a0], show t.getD (a + 1) 0 = t[a + 1] by simp [List.getD, a1]]
    rw [e]
    simp [getN]; omega
  · rw [bs_ext, List.drop_drop]
    congr 2
    · omega
theorem right_pos {x : AcM} {M : List AcM} (h : addE M x = 0) : 1 ≤ x.code := by
  unfold addE at h
  by_cases hr : rightB x = false
  · rw [if_pos hr] at h; cases h
  · exact (right_parts (by simpa using hr)).1.1
theorem acR_ok (l : List UInt8) : AcOk (acR l) := by
  have h1 := getN_lt (l.take 2)
  have h2 : (l.take 2).length ≤ 2 := by rw [List.length_take]; omega
  have h3 : 256 ^ (l.take 2).length ≤ 256 ^ 2 := Nat.pow_le_pow_right (by decide) h2
  have h4 := UInt8.toNat_lt (l.getD 2 0)
  have h5 := UInt8.toNat_lt (l.getD 3 0)
  refine ⟨⟨by unfold acR; dsimp only; omega, by unfold acR; dsimp only; omega⟩, ⟨by unfold acR; dsimp only; omega, by unfold acR; dsimp only; omega⟩, ?_⟩
  unfold acR
  dsimp only
  rw [bs_size, List.length_take]
  omega
theorem sums_at (p z : Nat) (hp : p ≤ 2000000) (hz : z < 256) : IntKind.i64.wrap ((p : Int) + 1) = (p : Int) + 1 ∧ IntKind.i64.wrap ((p : Int) + 2) = (p : Int) + 2 ∧ IntKind.i64.wrap ((p : Int) + 4) = (p : Int) + 4 ∧ IntKind.i64.wrap ((p : Int) + 4 + (z : Int)) = (p : Int) + 4 + (z : Int) := by
  simp only [IntKind.wrap_i64]
  omega
theorem bounds_at (p z m : Nat) (h : p + 4 + z ≤ m) : p < m ∧ 0 ≤ (p : Int) + 1 ∧ (p : Int) + 1 < (m : Int) ∧ 0 ≤ (p : Int) + 2 ∧ (p : Int) + 2 < (m : Int) ∧ 0 ≤ (p : Int) + 4 ∧ (p : Int) + 4 ≤ (p : Int) + 4 + (z : Int) ∧ (p : Int) + 4 + (z : Int) ≤ (m : Int) := by omega
theorem code_at (y0 y1 : Nat) (h0 : y0 < 256) (h1 : y1 < 256) : IntKind.i64.wrap (IntKind.i64.wrap (256 * IntKind.i64.wrap (y0 : Int)) + IntKind.i64.wrap (y1 : Int)) = 256 * (y0 : Int) + (y1 : Int) := by
  simp only [IntKind.wrap_i64]
  omega
theorem last_at {M : List AcM} {j : Nat} (h : M.length = j + 1) : lastC M = (M.getD j ac0).code := by
  unfold lastC
  rw [List.getLast?_eq_getElem?, h, Nat.add_sub_cancel]
  simp [List.getD, show j < M.length by omega]
theorem last_facts (m j : Nat) (hj : m = j + 1) (hm : m ≤ 64) : decide ((m : Int) > 0) = true ∧ (m : Int) - 1 = (j : Int) ∧ IntKind.i64.wrap ((m : Int) - 1) = (j : Int) ∧ wrap64 (j : Int) = (j : Int) ∧ IntKind.i64.wrap (j : Int) = (j : Int) := by
  refine ⟨decide_eq_true (by omega), by omega, ?_, ?_, ?_⟩
  · rw [IntKind.wrap_i64]; omega
  · unfold wrap64; omega
  · rw [IntKind.wrap_i64]; omega
theorem add_rises {M : List AcM} {x : AcM} (hr : RisesA M) (h : addE M x = 0) : RisesA (addM M x) ∧ (addM M x).length ≤ 64 := by
  unfold addM
  rw [if_pos h]
  unfold addE at h
  by_cases h1 : rightB x = false
  · rw [if_pos h1] at h; cases h
  · rw [if_neg h1] at h
    by_cases h2 : (getA M x.code).isSome = true
    · rw [if_pos h2] at h; cases h
    · rw [if_neg h2] at h
      by_cases h3 : 64 ≤ M.length
      · rw [if_pos h3] at h; cases h
      · exact ⟨insA_rises hr (by simpa using h2), by rw [insA_length]; omega⟩
def RChReadIs (t : List UInt8) (w : World) (e : Ending) (w' : World) : Prop :=
  ((chR t = none ∧ e = .returned (.tuple #[.slice none 0 0, .int .i64 0, .int .i64 4])) ∨ ∃ (M : List AcM) (rest : List UInt8) (a : Option Addr) (c : Nat), chR t = some (M, rest) ∧ e = .returned (.tuple #[.slice a M.length c, .int .i64 ((t.length : Int) - (rest.length : Int)), .int .i64 0]) ∧ AcsIn w' a M) ∧ Below w.heap.size w w'
set_option maxRecDepth 100000 in
set_option maxHeartbeats 1000000 in
theorem rchread_any (t : List UInt8) (ht : t.length ≤ 1000000) (w : World) :
    Calls Try.prog 22 #[.string (bs t)] w (RChReadIs t w) := by
  have HB := hide (fun i h => get_bs t i h)
  have hsz : (bs t).size = t.length := bs_size t
  have HCH := hide (show chR t = if 1 ≤ t.length then rdA (t.getD 0 0).toNat (t.drop 1) [] else none from rfl)
  have HAT := hide (fun a h => acR_at t a h)
  have HSZ := hide hsz
  obtain ⟨T, hT⟩ : ∃ T, bs t = T := ⟨_, rfl⟩
  rw [hT] at HB HAT HSZ ⊢
  clear hsz hT
  have hTs : T.size ≤ 1000000 := by have := HSZ.out; omega
  go_enter Try.func22, Try.ntmps22
  by_cases h1 : 1 ≤ T.size
  · have g1 : decide ((T.size : Int) < 1) = false := decide_eq_false (by omega)
    have hb0 := HB.out 0 (by omega)
    have HCH2 := hide (HCH.out.trans (if_pos (by have := HSZ.out; omega)))
    have hn := UInt8.toNat_lt (t.getD 0 0)
    rw [← hb0] at HCH2 hn
    obtain ⟨n, hnn⟩ : ∃ n, (T[0]'(by omega)).toNat = n := ⟨_, rfl⟩
    rw [hnn] at HCH2 hn
    clear hb0 HCH
    go_wp2_with fail
    clear hnn g1
    go_loopw [6, 7, 8] (fun at' l i W => ∃ (m p : Nat) (M : List AcM) (g : Option Addr) (c4 : Nat), m ≤ n ∧ p ≤ T.size ∧ at' = .int .i64 p ∧ l = .slice g M.length c4 ∧ i = .int .i64 m ∧ rdA (n - m) (t.drop p) M = chR t ∧ AcsIn W g M ∧ RisesA M ∧ M.length ≤ 64 ∧ Below w.heap.size w W) (fun _ _ i _ => n - (Go.RowKit.intOf i).toNat)
    case atStart => exact ⟨0, 1, [], none, 0, by omega, h1, rfl, rfl, rfl, HCH2.out.symm, (fun i hi => absurd hi (Nat.not_lt_zero i)), List.Pairwise.nil, Nat.zero_le _, Below.refl _ _⟩
    case round =>
      obtain ⟨m, p, M, g, c4, hm, hp, rfl, rfl, rfl, hre, ha, hri, h64, hb⟩ := hrel
      have HRE := hide hre
      have AM := hide ha
      have RI := hide hri
      have BM := hide hb
      have H64 := hide h64
      clear hre ha hri hb HCH2
      by_cases hlt : m < n
      · have HLT := hide hlt
        obtain ⟨k, hk⟩ : ∃ k, n - m = k + 1 := ⟨n - m - 1, by omega⟩
        rw [hk] at HRE
        have HK := hide hk
        clear hk
        have hdl : (t.drop p).length = T.size - p := by rw [List.length_drop, HSZ.out]
        have HDL := hide hdl
        clear hdl
        by_cases h4 : p + 4 ≤ T.size
        · have g4 : decide ((p : Int) + 4 > (T.size : Int)) = false := decide_eq_false (by omega)
          have hb3 := HB.out (p + 3) (by omega)
          obtain ⟨z, hz⟩ : ∃ z, (T[p + 3]'(by omega)).toNat = z := ⟨_, rfl⟩
          have hz256 : z < 256 := hz ▸ UInt8.toNat_lt _
          have HZ := hide (show (t.getD (p + 3) 0).toNat = z from by rw [← hb3]; exact hz)
          clear hb3
          by_cases h5 : p + 4 + z ≤ T.size
          · have g5 : decide ((p : Int) + 4 + (z : Int) > (T.size : Int)) = false := decide_eq_false (by omega)
            have hhas : hasA (t.drop p) := ⟨by rw [HDL.out]; omega, by rw [HDL.out, drop_getD, HZ.out]; omega⟩
            have HHAS := hide hhas
            have HX := hide (HAT.out p hhas)
            have HXO := hide (acR_ok (t.drop p))
            rw [HZ.out] at HX
            have hb0 := HB.out p (by omega)
            have hb1 := HB.out (p + 1) (by omega)
            have hb2 := HB.out (p + 2) (by omega)
            obtain ⟨y0, hy0⟩ : ∃ y, (T[p]'(by omega)).toNat = y := ⟨_, rfl⟩
            obtain ⟨y1, hy1⟩ : ∃ y, (T[p + 1]'(by omega)).toNat = y := ⟨_, rfl⟩
            obtain ⟨y2, hy2⟩ : ∃ y, (T[p + 2]'(by omega)).toNat = y := ⟨_, rfl⟩
            have hl0 : y0 < 256 := hy0 ▸ UInt8.toNat_lt _
            have hl1 : y1 < 256 := hy1 ▸ UInt8.toNat_lt _
            rw [← hb0, ← hb1, ← hb2, hy0, hy1, hy2] at HX
            have hw0 : IntKind.i64.wrap (256 * (y0 : Int)) = 256 * (y0 : Int) := by rw [IntKind.wrap_i64]; clear hy0 hy1 hy2 hb0 hb1 hb2; omega
            have hw1 : IntKind.i64.wrap (256 * (y0 : Int) + (y1 : Int)) = 256 * (y0 : Int) + (y1 : Int) := by rw [IntKind.wrap_i64]; clear hy0 hy1 hy2 hb0 hb1 hb2; omega
            obtain ⟨wp1, wp2, wp4, wpz⟩ := sums_at p z (by omega) hz256
            have HEXT := hide (show acR (t.drop p) = ⟨256 * (y0 : Int) + (y1 : Int), (y2 : Int), T.extract (p + 4) (p + 4 + z)⟩ from HX.out)
            obtain ⟨bd0, bd1, bd2, bd3, bd4, bd5, bd6, bd7⟩ := bounds_at p z T.size (by omega)
            generalize hnm : T.extract (p + 4) (p + 4 + z) = nm at *
            clear hb0 hb1 hb2 hhas HX
            go_upto_region 14 with (fail)
            go_cut [10] from 41 to 64 (fun s10 W => ∃ q, s10 = .pointer (some ⟨q, 0, none⟩) ∧ W.heap[q]? = some (.cells #[.int .i64 (256 * (y0 : Int) + (y1 : Int)), .int .u8 (y2 : Int), .string nm] 34 (0, 0)) ∧ AcsIn W g M ∧ Below w.heap.size w W)
            case first =>
              clear HB HAT HRE HDL HZ HXO HEXT HHAS HK HLT HSZ
              refine wp_region_held_drew (S := (fun W => AcsIn W g M ∧ Below w.heap.size w W)) (by kernel_rfl) (⟨AM.out.keep ((Below.refl _ _).drew), BM.out.drew⟩) (fun hHeld => ?_)
              generalize wr.drew = v0 at *
              have HAL := hide (fun o => show AcsIn (v0.alloc o) g M ∧ Below w.heap.size w (v0.alloc o) from ⟨hHeld.1.keep ((Below.refl _ _).alloc (Nat.le_refl _) o), hHeld.2.trans (((Below.refl _ _).alloc (Nat.le_refl _) o).mono hHeld.2.size)⟩)
              refine wpAnyH_take (i := 0) (oi := { dst := some 41, op := Op.move (Operand.tmp 0), type := 9, pos := "ref.go:102", after := #[], guard := none }) (v := ?_) rfl (by kernel_rfl) (by kernel_rfl) (by kernel_rfl) (fun _ _ _ h => h) (Or.inl ⟨by kernel_rfl, ?_⟩) hHeld ?_
              rotate_left
              · (intro w hSw; (try dsimp only at hSw); go_simp); try with_reducible rfl
              try simp only [Act.put, List.setIfInBounds_toArray, List.set_cons_zero, List.set_cons_succ]
              refine wpAnyH_take (i := 1) (oi := { dst := some 42, op := Op.move (Operand.tmp 6), type := 3, pos := "ref.go:102", after := #[], guard := none }) (v := ?_) rfl (by kernel_rfl) (by kernel_rfl) (by kernel_rfl) (fun _ _ _ h => h) (Or.inl ⟨by kernel_rfl, ?_⟩) hHeld ?_
              rotate_left
              · (intro w hSw; (try dsimp only at hSw); go_simp); try with_reducible rfl
              try simp only [Act.put, List.setIfInBounds_toArray, List.set_cons_zero, List.set_cons_succ]
              refine wpAnyH_take (i := 2) (oi := { dst := some 43, op := Op.index 9 (Operand.tmp 41) (Operand.tmp 42), type := 5, pos := "ref.go:102", after := #[{ on := 0, ground := Ground.data }, { on := 1, ground := Ground.data }], guard := none }) (v := ?_) rfl (by kernel_rfl) (by kernel_rfl) (by kernel_rfl) (fun _ _ _ h => h) (Or.inl ⟨by kernel_rfl, ?_⟩) hHeld ?_
              rotate_left
              · (intro w hSw; (try dsimp only at hSw); go_simp); try with_reducible rfl
              try simp only [Act.put, List.setIfInBounds_toArray, List.set_cons_zero, List.set_cons_succ]
              refine wpAnyH_take (i := 3) (oi := { dst := some 44, op := Op.convert 5 3 (Operand.tmp 43), type := 3, pos := "ref.go:102", after := #[{ on := 2, ground := Ground.data }], guard := none }) (v := ?_) rfl (by kernel_rfl) (by kernel_rfl) (by kernel_rfl) (fun _ _ _ h => h) (Or.inl ⟨by kernel_rfl, ?_⟩) hHeld ?_
              rotate_left
              · (intro w hSw; (try dsimp only at hSw); go_simp); try with_reducible rfl
              try simp only [Act.put, List.setIfInBounds_toArray, List.set_cons_zero, List.set_cons_succ]
              refine wpAnyH_take (i := 4) (oi := { dst := some 45, op := Op.binOp BinOp.mul 3 (Operand.const (Value.int IntKind.i64 256)) (Operand.tmp 44) 3, type := 3, pos := "ref.go:102", after := #[{ on := 3, ground := Ground.data }], guard := none }) (v := ?_) rfl (by kernel_rfl) (by kernel_rfl) (by kernel_rfl) (fun _ _ _ h => h) (Or.inl ⟨by kernel_rfl, ?_⟩) hHeld ?_
              rotate_left
              · (intro w hSw; (try dsimp only at hSw); go_simp); try with_reducible rfl
              try simp only [Act.put, List.setIfInBounds_toArray, List.set_cons_zero, List.set_cons_succ]
              refine wpAnyH_take (i := 5) (oi := { dst := some 46, op := Op.move (Operand.tmp 0), type := 9, pos := "ref.go:102", after := #[], guard := none }) (v := ?_) rfl (by kernel_rfl) (by kernel_rfl) (by kernel_rfl) (fun _ _ _ h => h) (Or.inl ⟨by kernel_rfl, ?_⟩) hHeld ?_
              rotate_left
              · (intro w hSw; (try dsimp only at hSw); go_simp); try with_reducible rfl
              try simp only [Act.put, List.setIfInBounds_toArray, List.set_cons_zero, List.set_cons_succ]
              refine wpAnyH_take (i := 6) (oi := { dst := some 47, op := Op.move (Operand.tmp 6), type := 3, pos := "ref.go:102", after := #[], guard := none }) (v := ?_) rfl (by kernel_rfl) (by kernel_rfl) (by kernel_rfl) (fun _ _ _ h => h) (Or.inl ⟨by kernel_rfl, ?_⟩) hHeld ?_
              rotate_left
              · (intro w hSw; (try dsimp only at hSw); go_simp); try with_reducible rfl
              try simp only [Act.put, List.setIfInBounds_toArray, List.set_cons_zero, List.set_cons_succ]
              refine wpAnyH_take (i := 7) (oi := { dst := some 48, op := Op.binOp BinOp.add 3 (Operand.tmp 47) (Operand.const (Value.int IntKind.i64 1)) 3, type := 3, pos := "ref.go:102", after := #[{ on := 6, ground := Ground.data }], guard := none }) (v := ?_) rfl (by kernel_rfl) (by kernel_rfl) (by kernel_rfl) (fun _ _ _ h => h) (Or.inl ⟨by kernel_rfl, ?_⟩) hHeld ?_
              rotate_left
              · (intro w hSw; (try dsimp only at hSw); go_simp); try with_reducible rfl
              try simp only [Act.put, List.setIfInBounds_toArray, List.set_cons_zero, List.set_cons_succ]
              refine wpAnyH_take (i := 8) (oi := { dst := some 49, op := Op.index 9 (Operand.tmp 46) (Operand.tmp 48), type := 5, pos := "ref.go:102", after := #[{ on := 5, ground := Ground.data }, { on := 7, ground := Ground.data }], guard := none }) (v := ?_) rfl (by kernel_rfl) (by kernel_rfl) (by kernel_rfl) (fun _ _ _ h => h) (Or.inl ⟨by kernel_rfl, ?_⟩) hHeld ?_
              rotate_left
              · (intro w hSw; (try dsimp only at hSw); go_simp); try with_reducible rfl
              try simp only [Act.put, List.setIfInBounds_toArray, List.set_cons_zero, List.set_cons_succ]
              refine wpAnyH_take (i := 9) (oi := { dst := some 50, op := Op.convert 5 3 (Operand.tmp 49), type := 3, pos := "ref.go:102", after := #[{ on := 8, ground := Ground.data }], guard := none }) (v := ?_) rfl (by kernel_rfl) (by kernel_rfl) (by kernel_rfl) (fun _ _ _ h => h) (Or.inl ⟨by kernel_rfl, ?_⟩) hHeld ?_
              rotate_left
              · (intro w hSw; (try dsimp only at hSw); go_simp); try with_reducible rfl
              try simp only [Act.put, List.setIfInBounds_toArray, List.set_cons_zero, List.set_cons_succ]
              refine wpAnyH_take (i := 10) (oi := { dst := some 51, op := Op.binOp BinOp.add 3 (Operand.tmp 45) (Operand.tmp 50) 3, type := 3, pos := "ref.go:102", after := #[{ on := 4, ground := Ground.data }, { on := 9, ground := Ground.data }], guard := none }) (v := ?_) rfl (by kernel_rfl) (by kernel_rfl) (by kernel_rfl) (fun _ _ _ h => h) (Or.inl ⟨by kernel_rfl, ?_⟩) hHeld ?_
              rotate_left
              · (intro w hSw; (try dsimp only at hSw); go_simp); try with_reducible rfl
              try simp only [Act.put, List.setIfInBounds_toArray, List.set_cons_zero, List.set_cons_succ]
              refine wpAnyH_take (i := 11) (oi := { dst := some 52, op := Op.move (Operand.tmp 0), type := 9, pos := "ref.go:102", after := #[], guard := none }) (v := ?_) rfl (by kernel_rfl) (by kernel_rfl) (by kernel_rfl) (fun _ _ _ h => h) (Or.inl ⟨by kernel_rfl, ?_⟩) hHeld ?_
              rotate_left
              · (intro w hSw; (try dsimp only at hSw); go_simp); try with_reducible rfl
              try simp only [Act.put, List.setIfInBounds_toArray, List.set_cons_zero, List.set_cons_succ]
              refine wpAnyH_take (i := 12) (oi := { dst := some 53, op := Op.move (Operand.tmp 6), type := 3, pos := "ref.go:102", after := #[], guard := none }) (v := ?_) rfl (by kernel_rfl) (by kernel_rfl) (by kernel_rfl) (fun _ _ _ h => h) (Or.inl ⟨by kernel_rfl, ?_⟩) hHeld ?_
              rotate_left
              · (intro w hSw; (try dsimp only at hSw); go_simp); try with_reducible rfl
              try simp only [Act.put, List.setIfInBounds_toArray, List.set_cons_zero, List.set_cons_succ]
              refine wpAnyH_take (i := 13) (oi := { dst := some 54, op := Op.binOp BinOp.add 3 (Operand.tmp 53) (Operand.const (Value.int IntKind.i64 2)) 3, type := 3, pos := "ref.go:102", after := #[{ on := 12, ground := Ground.data }], guard := none }) (v := ?_) rfl (by kernel_rfl) (by kernel_rfl) (by kernel_rfl) (fun _ _ _ h => h) (Or.inl ⟨by kernel_rfl, ?_⟩) hHeld ?_
              rotate_left
              · (intro w hSw; (try dsimp only at hSw); go_simp); try with_reducible rfl
              try simp only [Act.put, List.setIfInBounds_toArray, List.set_cons_zero, List.set_cons_succ]
              refine wpAnyH_take (i := 14) (oi := { dst := some 55, op := Op.index 9 (Operand.tmp 52) (Operand.tmp 54), type := 5, pos := "ref.go:102", after := #[{ on := 11, ground := Ground.data }, { on := 13, ground := Ground.data }], guard := none }) (v := ?_) rfl (by kernel_rfl) (by kernel_rfl) (by kernel_rfl) (fun _ _ _ h => h) (Or.inl ⟨by kernel_rfl, ?_⟩) hHeld ?_
              rotate_left
              · (intro w hSw; (try dsimp only at hSw); go_simp); try with_reducible rfl
              try simp only [Act.put, List.setIfInBounds_toArray, List.set_cons_zero, List.set_cons_succ]
              refine wpAnyH_take (i := 15) (oi := { dst := some 56, op := Op.move (Operand.tmp 0), type := 9, pos := "ref.go:102", after := #[], guard := none }) (v := ?_) rfl (by kernel_rfl) (by kernel_rfl) (by kernel_rfl) (fun _ _ _ h => h) (Or.inl ⟨by kernel_rfl, ?_⟩) hHeld ?_
              rotate_left
              · (intro w hSw; (try dsimp only at hSw); go_simp); try with_reducible rfl
              try simp only [Act.put, List.setIfInBounds_toArray, List.set_cons_zero, List.set_cons_succ]
              refine wpAnyH_take (i := 16) (oi := { dst := some 57, op := Op.move (Operand.tmp 6), type := 3, pos := "ref.go:102", after := #[], guard := none }) (v := ?_) rfl (by kernel_rfl) (by kernel_rfl) (by kernel_rfl) (fun _ _ _ h => h) (Or.inl ⟨by kernel_rfl, ?_⟩) hHeld ?_
              rotate_left
              · (intro w hSw; (try dsimp only at hSw); go_simp); try with_reducible rfl
              try simp only [Act.put, List.setIfInBounds_toArray, List.set_cons_zero, List.set_cons_succ]
              refine wpAnyH_take (i := 17) (oi := { dst := some 58, op := Op.binOp BinOp.add 3 (Operand.tmp 57) (Operand.const (Value.int IntKind.i64 4)) 3, type := 3, pos := "ref.go:102", after := #[{ on := 16, ground := Ground.data }], guard := none }) (v := ?_) rfl (by kernel_rfl) (by kernel_rfl) (by kernel_rfl) (fun _ _ _ h => h) (Or.inl ⟨by kernel_rfl, ?_⟩) hHeld ?_
              rotate_left
              · (intro w hSw; (try dsimp only at hSw); go_simp); try with_reducible rfl
              try simp only [Act.put, List.setIfInBounds_toArray, List.set_cons_zero, List.set_cons_succ]
              refine wpAnyH_take (i := 18) (oi := { dst := some 59, op := Op.move (Operand.tmp 6), type := 3, pos := "ref.go:102", after := #[], guard := none }) (v := ?_) rfl (by kernel_rfl) (by kernel_rfl) (by kernel_rfl) (fun _ _ _ h => h) (Or.inl ⟨by kernel_rfl, ?_⟩) hHeld ?_
              rotate_left
              · (intro w hSw; (try dsimp only at hSw); go_simp); try with_reducible rfl
              try simp only [Act.put, List.setIfInBounds_toArray, List.set_cons_zero, List.set_cons_succ]
              refine wpAnyH_take (i := 19) (oi := { dst := some 60, op := Op.binOp BinOp.add 3 (Operand.tmp 59) (Operand.const (Value.int IntKind.i64 4)) 3, type := 3, pos := "ref.go:102", after := #[{ on := 18, ground := Ground.data }], guard := none }) (v := ?_) rfl (by kernel_rfl) (by kernel_rfl) (by kernel_rfl) (fun _ _ _ h => h) (Or.inl ⟨by kernel_rfl, ?_⟩) hHeld ?_
              rotate_left
              · (intro w hSw; (try dsimp only at hSw); go_simp); try with_reducible rfl
              try simp only [Act.put, List.setIfInBounds_toArray, List.set_cons_zero, List.set_cons_succ]
              refine wpAnyH_take (i := 20) (oi := { dst := some 61, op := Op.move (Operand.tmp 9), type := 3, pos := "ref.go:102", after := #[], guard := none }) (v := ?_) rfl (by kernel_rfl) (by kernel_rfl) (by kernel_rfl) (fun _ _ _ h => h) (Or.inl ⟨by kernel_rfl, ?_⟩) hHeld ?_
              rotate_left
              · (intro w hSw; (try dsimp only at hSw); go_simp); try with_reducible rfl
              try simp only [Act.put, List.setIfInBounds_toArray, List.set_cons_zero, List.set_cons_succ]
              refine wpAnyH_take (i := 21) (oi := { dst := some 62, op := Op.binOp BinOp.add 3 (Operand.tmp 60) (Operand.tmp 61) 3, type := 3, pos := "ref.go:102", after := #[{ on := 19, ground := Ground.data }, { on := 20, ground := Ground.data }], guard := none }) (v := ?_) rfl (by kernel_rfl) (by kernel_rfl) (by kernel_rfl) (fun _ _ _ h => h) (Or.inl ⟨by kernel_rfl, ?_⟩) hHeld ?_
              rotate_left
              · (intro w hSw; (try dsimp only at hSw); go_simp); try with_reducible rfl
              try simp only [Act.put, List.setIfInBounds_toArray, List.set_cons_zero, List.set_cons_succ]
              refine wpAnyH_take (i := 22) (oi := { dst := some 63, op := Op.slice 9 (Operand.tmp 56) (some (Operand.tmp 58)) (some (Operand.tmp 62)) none, type := 9, pos := "ref.go:102", after := #[{ on := 15, ground := Ground.data }, { on := 17, ground := Ground.data }, { on := 21, ground := Ground.data }], guard := none }) (v := ?_) rfl (by kernel_rfl) (by kernel_rfl) (by kernel_rfl) (fun _ _ _ h => h) (Or.inl ⟨by kernel_rfl, ?_⟩) hHeld ?_
              rotate_left
              · (intro w hSw; (try dsimp only at hSw); go_simp); try with_reducible rfl
              try simp only [Act.put, List.setIfInBounds_toArray, List.set_cons_zero, List.set_cons_succ]
              refine wpAnyH_take (i := 23) (oi := { dst := some 64, op := Op.build 34 #[(0, Operand.tmp 51), (1, Operand.tmp 55), (2, Operand.tmp 63)], type := 34, pos := "ref.go:102", after := #[{ on := 10, ground := Ground.data }, { on := 14, ground := Ground.data }, { on := 22, ground := Ground.data }], guard := none }) (v := ?_) rfl (by kernel_rfl) (by kernel_rfl) (by kernel_rfl) (fun _ _ _ h => h) (Or.inl ⟨by kernel_rfl, ?_⟩) hHeld ?_
              rotate_left
              · (intro w hSw; (try dsimp only at hSw); go_simp); try with_reducible rfl
              try simp only [Act.put, List.setIfInBounds_toArray, List.set_cons_zero, List.set_cons_succ]
              refine wpAnyH_ready (rs := [24]) (by kernel_rfl) (by simp) (AllReadyH.cons (o := { dst := some 10, op := Op.alloc 34, type := 0, pos := "ref.go:102", after := #[], guard := none }) rfl (fun K hK => ?_) AllReadyH.nil)
              have hOld := hide hHeld
              clear hHeld
              go_simp
              skip
              (try go_wp2_with fail)
              refine hK.out _ _ (HAL.out _) (fun hHeld => ?_)
              clear hK K hOld
              try simp only [Act.put, List.setIfInBounds_toArray, List.set_cons_zero, List.set_cons_succ]
              refine wpAnyH_ready (rs := [25]) (by kernel_rfl) (by simp) (AllReadyH.cons (o := { dst := none, op := Op.store 34 (Operand.tmp 10) (Operand.tmp 64), type := 0, pos := "ref.go:102", after := #[{ on := 24, ground := Ground.data }, { on := 23, ground := Ground.data }, { on := 0, ground := Ground.phase }, { on := 1, ground := Ground.phase }, { on := 2, ground := Ground.phase }, { on := 3, ground := Ground.phase }, { on := 4, ground := Ground.phase }, { on := 5, ground := Ground.phase }, { on := 6, ground := Ground.phase }, { on := 7, ground := Ground.phase }, { on := 8, ground := Ground.phase }, { on := 9, ground := Ground.phase }, { on := 10, ground := Ground.phase }, { on := 11, ground := Ground.phase }, { on := 12, ground := Ground.phase }, { on := 13, ground := Ground.phase }, { on := 14, ground := Ground.phase }, { on := 15, ground := Ground.phase }, { on := 16, ground := Ground.phase }, { on := 17, ground := Ground.phase }, { on := 18, ground := Ground.phase }, { on := 19, ground := Ground.phase }, { on := 20, ground := Ground.phase }, { on := 21, ground := Ground.phase }, { on := 22, ground := Ground.phase }, { on := 23, ground := Ground.phase }, { on := 24, ground := Ground.phase }], guard := none }) rfl (fun K hK => ?_) AllReadyH.nil)
              have hOld := hide hHeld
              clear hHeld
              go_simp
              skip
              (try go_wp2_with fail)
              refine hK.out _ _ (HAL.out _) (fun hHeld => ?_)
              clear hK K hOld
              try simp only [Act.put, List.setIfInBounds_toArray, List.set_cons_zero, List.set_cons_succ]
              refine wpAnyH_done (by kernel_rfl) ?_ _
              have HELD := hide hHeld
              clear hHeld
              have t2 : ((p : Int) + 2).toNat = p + 2 := by omega
              have t4 : ((p : Int) + 4).toNat = p + 4 := by omega
              have tz : ((p : Int) + 4 + (z : Int)).toNat = p + 4 + z := by omega
              have hcode := code_at y0 y1 hl0 hl1
              have HV := hide (And.intro t2 (And.intro t4 (And.intro tz hcode)))
              clear t2 t4 tz hcode
              go_wp2
              go_meet
              obtain ⟨t2, t4, tz, hcode⟩ := HV.out
              refine ⟨_, rfl, ?_, HAL.out _⟩
              rw [heap_new]
              simp only [t2, t4, tz, hcode, hy2, hnm]
            case rest =>
              obtain ⟨q, rfl, hx, ha, hb⟩ := hcut
              have XC := hide hx
              have AC := hide ha
              have BC := hide hb
              have hbx := HXO.out
              rw [HEXT.out] at hbx
              have HRA := hide (fun W h => radd_any M H64.out ⟨256 * (y0 : Int) + (y1 : Int), (y2 : Int), nm⟩ hbx g c4 W h)
              unfold RAddIs at HRA
              unfold acV at HRA
              dsimp only at HRA
              generalize hcd : 256 * (y0 : Int) + (y1 : Int) = cd at *
              have HCD := hide hcd
              clear hx ha hb hbx AM BM hcd hw0 hw1 wp1 wp2 wp4 wpz bd0 bd1 bd2 bd3 bd4 bd5 bd6 bd7 hy0 hy1 hy2 hl0 hl1 hnm HB HAT g4 g5
              have e0 : wc.cell? ⟨q, 0, none⟩ = some (.int .i64 cd) := cell_of_block XC.out 0
              have e1 : wc.cell? ⟨q, 1, none⟩ = some (.int .u8 (y2 : Int)) := cell_of_block XC.out 1
              have e2 : wc.cell? ⟨q, 2, none⟩ = some (.string nm) := cell_of_block XC.out 2
              go_upto_region 15 with (fail)
              go_cut [79] from 65 to 79 (fun s79 W => s79 = .bool (decide (M ≠ [] ∧ cd ≤ lastC M)) ∧ W.heap[q]? = some (.cells #[.int .i64 cd, .int .u8 (y2 : Int), .string nm] 34 (0, 0)) ∧ AcsIn W g M ∧ Below w.heap.size w W)
              case first =>
                clear HRA HRE HXO HEXT HHAS HK HLT HSZ HDL HZ e1 e2
                by_cases hM : M = []
                · subst hM
                  have HDE := hide (show false = decide (([] : List AcM) ≠ [] ∧ cd ≤ lastC []) from (decide_eq_false (fun h => h.1 rfl)).symm)
                  go_quiet (fail)
                  go_wp2
                  go_meet
                  exact ⟨congrArg Value.bool HDE.out, XC.out, AC.out.keep (belowN (Below.refl _ _) _), belowN BC.out _⟩
                · have hlp : 0 < M.length := List.length_pos_iff.2 hM
                  obtain ⟨j, hj⟩ : ∃ j, M.length = j + 1 := ⟨M.length - 1, by omega⟩
                  obtain ⟨gb, hg, -, r0, -, -⟩ := AC.out j (by omega)
                  subst hg
                  have HLA := hide (last_at hj)
                  rw [← last_at hj] at r0
                  obtain ⟨f1, f2, f3, f4, f5⟩ := last_facts M.length j hj H64.out
                  have hjl : j < M.length := by omega
                  have HDE := hide (show decide (cd ≤ lastC M) = decide (M ≠ [] ∧ cd ≤ lastC M) from by rw [Bool.eq_iff_iff, decide_eq_true_eq, decide_eq_true_eq]; exact ⟨fun h => ⟨hM, h⟩, fun h => h.2⟩)
                  have HJ := hide hj
                  clear hz
                  clear hj h64 h4 h5 hp hm
                  generalize lastC M = lz at *
                  go_quiet (fail)
                  go_wp2
                  go_meet
                  exact ⟨congrArg Value.bool HDE.out, XC.out, AC.out.keep (belowN (Below.refl _ _) _), belowN BC.out _⟩
              case rest =>
                obtain ⟨rfl, hx, ha, hb⟩ := hcut
                have XD := hide hx
                have AD := hide ha
                have BD := hide hb
                clear hx ha hb XC AC BC e0 e1 e2
                have HCODE := hide (show (acR (t.drop p)).code = cd from by rw [HEXT.out])
                by_cases hle : M ≠ [] ∧ cd ≤ lastC M
                · rw [decide_eq_true hle]
                  have HNO := hide ((rdA_no (M := M) (l := t.drop p) (k := k) (fun hg => by
                    have := hg.2.1
                    rw [HCODE.out] at this
                    have := hle.2
                    omega)).symm.trans HRE.out)
                  clear hle HRA
                  go_wp2_with fail
                  go_ret3
                  exact ⟨Or.inl ⟨HNO.out.symm, rfl⟩, BD.out⟩
                · rw [decide_eq_false hle]
                  have HLE := hide hle
                  clear hle
                  have e0 : wc.cell? ⟨q, 0, none⟩ = some (.int .i64 cd) := cell_of_block XD.out 0
                  have e1 : wc.cell? ⟨q, 1, none⟩ = some (.int .u8 (y2 : Int)) := cell_of_block XD.out 1
                  have e2 : wc.cell? ⟨q, 2, none⟩ = some (.string nm) := cell_of_block XD.out 2
                  have HAE := hide (show addE M (acR (t.drop p)) = addE M ⟨cd, (y2 : Int), nm⟩ from by rw [HEXT.out])
                  have HRP := hide (fun h => @right_pos ⟨cd, (y2 : Int), nm⟩ M h)
                  have HGN := hide (fun h => @good_next M (t.drop p) RI.out h)
                  rw [HEXT.out] at HGN
                  have HIN := hide (fun h => @insA_rises M (⟨cd, (y2 : Int), nm⟩ : AcM) RI.out h)
                  have HR2 := hide (show addE M ⟨cd, (y2 : Int), nm⟩ = 0 → RisesA (addM M ⟨cd, (y2 : Int), nm⟩) ∧ (addM M ⟨cd, (y2 : Int), nm⟩).length ≤ 64 from fun h => add_rises RI.out h)
                  generalize addE M ⟨cd, (y2 : Int), nm⟩ = ae at *
                  go_wp2_with fail
                  refine (HRA.out _ AD.out).mono ?_
                  rintro e w6 ⟨g6, c6, rfl, ha6, hb6⟩
                  have A6 := hide ha6
                  have B6 := hide (BD.out.trans (hb6.mono BD.out.size))
                  clear ha6 hb6 HRA AD BD XD e0 e1 e2
                  by_cases hz0 : ae = 0
                  · subst hz0
                    have hgd : goodA M (t.drop p) := ⟨HHAS.out, by
                      rw [HCODE.out]
                      by_cases hM : M = []
                      · have := HRP.out rfl
                        subst hM
                        show (0 : Int) < cd
                        omega
                      · have := HLE.out
                        by_cases hc : cd ≤ lastC M
                        · exact absurd ⟨hM, hc⟩ this
                        · omega, HAE.out⟩
                    have HRE2 := hide ((rdA_yes hgd).symm.trans HRE.out)
                    rw [show restA (t.drop p) = t.drop (p + 4 + z) from by unfold restA; rw [drop_getD, HZ.out, List.drop_drop]; congr 1; omega, HEXT.out] at HRE2
                    have HG2 := hide (HGN.out hgd)
                    have HR3 := hide (HR2.out rfl)
                    rw [HG2.out] at A6 HR3 ⊢
                    have hsum : wrap64 ((p : Int) + 4 + (z : Int)) = (p : Int) + 4 + (z : Int) := by unfold wrap64; omega
                    clear hgd HGN HR2 HRE HAE HRP HLE HCODE HEXT
                    go_wp2_with fail
                    go_roundw
                    case rel => exact ⟨m + 1, p + 4 + z, _, g6, c6, HLT.out, h5, by go_num, by rw [List.length_append]; rfl, by go_num, by rw [show n - (m + 1) = k by have := HK.out; omega]; exact HRE2.out, A6.out, HR3.out.1, HR3.out.2, B6.out⟩
                    case measure => have := HLT.out; simp [Go.RowKit.intOf]; omega
                  · have HNO := hide ((rdA_no (M := M) (l := t.drop p) (k := k) (fun hg => hz0 (HAE.out.symm.trans hg.2.2))).symm.trans HRE.out)
                    have hzb : (ae == 0) = false := beq_eq_false_iff_ne.mpr hz0
                    clear hz0 HGN HR2 HRP HAE
                    go_wp2_with fail
                    go_ret3
                    exact ⟨Or.inl ⟨HNO.out.symm, rfl⟩, B6.out⟩
          · have g5 : decide ((p : Int) + 4 + (z : Int) > (T.size : Int)) = true := decide_eq_true (by omega)
            have HNO := hide ((rdA_no (M := M) (l := t.drop p) (k := k) (fun hg => h5 (by
              have := hg.1.2
              rw [drop_getD, HZ.out, HDL.out] at this
              have h6 := hg.1.1
              rw [HDL.out] at h6
              omega))).symm.trans HRE.out)
            go_wp2_with fail
            go_ret3
            exact ⟨Or.inl ⟨HNO.out.symm, rfl⟩, BM.out⟩
        · have g4 : decide ((p : Int) + 4 > (T.size : Int)) = true := decide_eq_true (by omega)
          have HNO := hide ((rdA_no (M := M) (l := t.drop p) (k := k) (fun hg => h4 (by
            have h6 := hg.1.1
            rw [HDL.out] at h6
            omega))).symm.trans HRE.out)
          go_wp2_with fail
          go_ret3
          exact ⟨Or.inl ⟨HNO.out.symm, rfl⟩, BM.out⟩
      · obtain rfl : n = m := by omega
        rw [Nat.sub_self] at HRE
        have HSO := hide (show chR t = some (M, t.drop p) from HRE.out.symm)
        have HDL := hide (show ((t.length : Int) - ((t.drop p).length : Int)) = (p : Int) from by rw [List.length_drop]; have := HSZ.out; omega)
        clear hlt HRE
        go_wp2_with fail
        go_ret3
        refine ⟨Or.inr ⟨M, t.drop p, g, c4, HSO.out, ?_, AM.out⟩, BM.out⟩
        rw [HDL.out]
        rfl
  · have g1 : decide ((T.size : Int) < 1) = true := decide_eq_true (by omega)
    have HNO := hide (HCH.out.trans (if_neg (by have := HSZ.out; omega)))
    clear h1
    go_wp2_with fail
    go_ret3
    exact ⟨Or.inl ⟨HNO.out, rfl⟩, Below.refl _ _⟩
end Go.Proofs.Ytehjhldijhoeeaa
