/-
  Layer 19, the program's calls: Right, Size, sum, Frame by contract.
-/
import Derived.Test.YtdjaldkjpmcbdaaMRec
namespace Go.Proofs.Ytdjaldkjpmcbdaa
set_option linter.unusedSimpArgs false
set_option linter.unusedVariables false
open Go.RowKit Go.WideShapes Go.ChangeShapes Go.ChangeAt

/-- records in memory -/
def RecsIn (W : World) (a : Option Addr) (L : List Rc) : Prop := ∀ i, i < L.length → ∃ b off, a = some ⟨b, off, none⟩ ∧ b < W.heap.size ∧ W.cell? ⟨b, off + i * 2, none⟩ = some (.int .u8 ((L.getD i rc0).1.toNat : Int)) ∧ W.cell? ⟨b, off + i * 2 + 1, none⟩ = some (.string (bs (L.getD i rc0).2))
theorem RecsIn.kept {B : Nat} {W W' : World} {a : Option Addr} {L : List Rc} (h : RecsIn W a L) (hl : ∀ b o s, a = some ⟨b, o, s⟩ → b < B) (hb : Below B W W') : RecsIn W' a L := fun i hi => by
  obtain ⟨b, off, rfl, h2, h3, h4⟩ := h i hi
  have := hl b off none rfl
  exact ⟨b, off, rfl, Nat.lt_of_lt_of_le h2 hb.size, (hb.cell (p := ⟨b, off + i * 2, none⟩) this).trans h3, (hb.cell (p := ⟨b, off + i * 2 + 1, none⟩) this).trans h4⟩
theorem RecsIn.below {W W' : World} {a : Option Addr} {L : List Rc} (h : RecsIn W a L) (hb : Below W.heap.size W W') : RecsIn W' a L := fun i hi => by
  obtain ⟨b, off, rfl, h2, h3, h4⟩ := h i hi
  exact ⟨b, off, rfl, Nat.lt_of_lt_of_le h2 hb.size, (hb.cell (p := ⟨b, off + i * 2, none⟩) h2).trans h3, (hb.cell (p := ⟨b, off + i * 2 + 1, none⟩) h2).trans h4⟩
theorem RecsIn.drewN {W : World} {a : Option Addr} {L : List Rc} (h : RecsIn W a L) (n : Nat) : RecsIn (W.drewN n) a L := fun i hi => h i hi
theorem ret_b2 {a b : Bool} (h : a = b) : Ending.returned (.bool a) = .returned (.bool b) := by rw [h]
set_option maxRecDepth 100000 in
set_option maxHeartbeats 400000 in
theorem rec_right (r : Rc) (w : World) : Calls Try.prog 11 #[.agg #[.int .u8 (r.1.toNat : Int), .string (bs r.2)]] w fun e w' => e = .returned (.bool (rightR r)) ∧ Below w.heap.size w w' := by
  obtain ⟨k, l⟩ := r
  have HB := hide ((Below.refl w.heap.size w).alloc (Nat.le_refl _) (.cells #[.int .u8 (k.toNat : Int), .string (bs l)] 38))
  have hr : rightR (k, l) = (decide (k ≠ 0) && decide (l.length ≤ 2048)) := rfl
  have hsz : (bs l).size = l.length := bs_size l
  have HR := hide hr
  have HSZ := hide hsz
  clear hr hsz
  dsimp only
  by_cases h0 : k = 0
  · subst h0
    have h0' : ((0 : UInt8).toNat : Int) = 0 := rfl
    rw [h0'] at HB
    rw [h0']
    go_enter Try.func11, Try.ntmps11
    go_wp2_with fail
    go_ret
    exact ⟨ret_b2 (by rw [HR.out]; rfl), HB.out⟩
  · have h0' : ¬ (k.toNat : Int) = 0 := by
      intro h
      apply h0
      have : k.toNat = 0 := by omega
      exact UInt8.toNat_inj.1 this
    rw [decide_eq_true h0, Bool.true_and] at HR
    by_cases h1 : l.length ≤ 2048
    · have h1' : ((bs l).size : Int) ≤ 2048 := by rw [HSZ.out]; omega
      rw [decide_eq_true h1] at HR
      generalize bs l = s at *
      generalize (k.toNat : Int) = ki at *
      go_enter Try.func11, Try.ntmps11
      go_wp2_with fail
      go_ret
      exact ⟨ret_b2 (by rw [HR.out] <;> simp [h0']), HB.out⟩
    · have h1' : ¬ ((bs l).size : Int) ≤ 2048 := by rw [HSZ.out]; omega
      rw [decide_eq_false h1] at HR
      generalize bs l = s at *
      generalize (k.toNat : Int) = ki at *
      go_enter Try.func11, Try.ntmps11
      go_wp2_with fail
      go_ret
      exact ⟨ret_b2 (by rw [HR.out] <;> simp [h0']), HB.out⟩
set_option maxRecDepth 100000 in
set_option maxHeartbeats 400000 in
theorem rec_size (r : Rc) (hl : r.2.length ≤ 4294967296) (w : World) : Calls Try.prog 12 #[.agg #[.int .u8 (r.1.toNat : Int), .string (bs r.2)]] w fun e w' => e = .returned (.int .i64 (if rightR r = true then ((7 + r.2.length : Nat) : Int) else 0)) ∧ Below w.heap.size w w' := by
  have HRT := hide (fun W => rec_right r W)
  obtain ⟨k, l⟩ := r
  have hsz : ((bs l).size : Int) = (l.length : Int) := by rw [bs_size]
  have hll : (l.length : Int) ≤ 4294967296 := by dsimp only at hl; omega
  have HB := hide ((Below.refl w.heap.size w).alloc (Nat.le_refl _) (.cells #[.int .u8 (k.toNat : Int), .string (bs l)] 38))
  have h7 : (((7 + l.length : Nat)) : Int) = (l.length : Int) + 7 := by omega
  dsimp only at *
  rw [h7]
  clear h7 hl
  have hd0 : (w.alloc (.cells #[.int .u8 (k.toNat : Int), .string (bs l)] 38)).cell? ⟨w.heap.size, 1, none⟩ = some (.string (bs l)) := by rw [World.cell?_alloc_new]; rfl
  generalize bs l = s at *
  generalize (k.toNat : Int) = ki at *
  go_enter Try.func12, Try.ntmps12
  cases hr : rightR (k, l)
  · rw [hr] at HRT
    clear hr
    go_wp2_with fail
    refine (HRT.out _).mono ?_
    rintro e w1 ⟨rfl, hb⟩
    have HB1 := hide (below_trans HB.out hb)
    clear hb
    go_wp2_with fail
    go_ret
    exact ⟨rfl, HB1.out⟩
  · rw [hr] at HRT
    clear hr
    go_wp2_with fail
    refine (HRT.out _).mono ?_
    rintro e w1 ⟨rfl, hb⟩
    have HB1 := hide (below_trans HB.out hb)
    have hd1 := (hb.cell (p := ⟨w.heap.size, 1, none⟩) (by simp)).trans hd0
    clear hb hd0
    go_wp2_with fail
    go_ret
    exact ⟨rfl, HB1.out⟩
set_option maxRecDepth 100000 in
set_option maxHeartbeats 400000 in
theorem rec_sum (b o : Nat) (l : List UInt8) (hl : l.length ≤ 9223372036854775807) (w : World) (ht : TabAt w b o) :
    Calls Try.prog 18 #[.pointer (some ⟨b, o, none⟩), .string (bs l)] w fun e w' => e = .returned (.string (bs (putL (cN l) 4))) ∧ Below w.heap.size w w' := by
  have HS := hide (sum_any b o (bs l) (by rw [bs_size]; exact hl) w ht)
  have hle := cN_le l
  have HP := hide (fun W => put_yes (cN l : Int) (by omega) (by omega) 4 (by omega) (by omega) W)
  rw [show (4 : Int).toNat = 4 from rfl, Int.toNat_natCast] at HP
  have hw := cN_wrap l
  rw [show (bs l).data.toList = l from rfl] at HS
  generalize cN l = c at *
  have hci : (c : Int) ≤ 4294967295 := by omega
  generalize bs l = s at *
  go_enter Try.func18, Try.ntmps18
  go_wp2_with fail
  refine HS.out.mono ?_
  rintro e w1 ⟨rfl, n, rfl⟩
  go_wp2_with fail
  refine (HP.out _).mono ?_
  rintro e w2 ⟨rfl, hb⟩
  have HB := hide ((below_drewN' (Below.refl w.heap.size w) n).trans (hb.mono (by simp)))
  go_wp2_with fail
  go_ret
  exact ⟨rfl, HB.out⟩
theorem rec_sum_nil (s : ByteArray) : True := trivial
def frL (L : List Rc) : List UInt8 := if L.all rightR = true then frameL L else []
def frE (L : List Rc) : Int := if L.all rightR = true then 0 else 2
theorem fr_no {L : List Rc} (h : L.all rightR = false) : frL L = [] ∧ frE L = 2 := by unfold frL frE; rw [h]; exact ⟨rfl, rfl⟩
theorem fr_yes {L : List Rc} (h : L.all rightR = true) : frL L = frameL L ∧ frE L = 0 := by unfold frL frE; rw [h]; exact ⟨rfl, rfl⟩
set_option maxRecDepth 100000 in
set_option maxHeartbeats 400000 in
theorem frame_any (pb po : Nat) (a : Option Addr) (cap : Nat) (L : List Rc) (hL : L.length ≤ 100000) (hlen : ∀ r ∈ L, r.2.length ≤ 4294967296) (w : World) (ht : TabAt w pb po) (hin : RecsIn w a L) :
    Calls Try.prog 9 #[.pointer (some ⟨pb, po, none⟩), .slice a L.length cap] w fun e w' => e = .returned (.tuple #[.string (bs (frL L)), .int .i64 (frE L)]) ∧ Below w.heap.size w w' := by
  have HT := hide ht
  have HIN := hide hin
  have hpl := tabAt_lt ht
  have HA := hide (show ∀ b o s, a = some ⟨b, o, s⟩ → 0 < L.length → b < w.heap.size from fun b o s e h0 => by
    obtain ⟨b', off, e', h2, -⟩ := hin 0 h0
    rw [e'] at e
    simp only [Option.some.injEq, Addr.mk.injEq] at e
    omega)
  have HLEN := hide hlen
  have HNEW := hide (BldAt.new w)
  have HB0 := hide ((Below.refl w.heap.size w).alloc (Nat.le_refl _) (.cells #[.pointer none, .slice none 0 0] BT))
  clear ht hin hlen
  go_enter Try.func9, Try.ntmps9
  go_wp2_with fail
  go_loopw [14] (fun i W => ∃ j : Nat, j ≤ L.length ∧ i = .int .i64 j ∧ BldAt w.heap.size w.heap.size (frameL (L.take j)) W ∧ Below w.heap.size w W ∧ ∀ r ∈ L.take j, rightR r = true) (fun i _ => L.length - (intOf i).toNat)
  case atStart => exact ⟨0, by omega, rfl, HNEW.out, HB0.out, fun r hr => by simp at hr⟩
  case round =>
    clear HNEW HB0
    obtain ⟨j, hj, rfl, hbd, hbl, hok⟩ := hrel
    have HBD := hide hbd
    have HBL := hide hbl
    have HOK := hide hok
    clear hbd hbl hok
    by_cases hlt : j < L.length
    · obtain ⟨b, off, rfl, hb, c0, c1⟩ := HIN.out j hlt
      have d0 := (HBL.out.cell (p := ⟨b, off + j * 2, none⟩) hb).trans c0
      have d1 := (HBL.out.cell (p := ⟨b, off + j * 2 + 1, none⟩) hb).trans c1
      have HRT := hide (fun W => rec_right (L.getD j rc0) W)
      have HNX := hide (frameL_next L j hlt)
      have HTN := hide (takeR_next L j hlt)
      have hle := frameL_le (L.take j) HOK.out
      have hle2 : (L.take j).length = j := by simp; omega
      rw [hle2] at hle
      have hml : (L.getD j rc0).2.length ≤ 4294967296 := HLEN.out _ (by simp [List.getD, hlt])
      have HALL := hide (show rightR (L.getD j rc0) = false → L.all rightR = false from fun h => by
        rw [List.all_eq_false]
        exact ⟨L[j], List.getElem_mem _, by have : L.getD j rc0 = L[j] := by simp [List.getD, hlt]
                                            rw [this] at h; simp [h]⟩)
      clear c0 c1 hle2
      generalize L.getD j rc0 = r at *
      obtain ⟨k, l⟩ := r
      dsimp only at *
      have HRN := hide (heap_new wr (.cells #[.int .u8 (k.toNat : Int), .string (bs l)] 38))
      have HBD1 := hide (HBD.out.below ((Below.refl wr.heap.size wr).alloc (Nat.le_refl _) (.cells #[.int .u8 (k.toNat : Int), .string (bs l)] 38)))
      have HBL1 := hide (HBL.out.alloc HBL.out.size (.cells #[.int .u8 (k.toNat : Int), .string (bs l)] 38))
      cases hr : rightR (k, l)
      · rw [hr] at HRT
        have HALL2 := hide (HALL.out hr)
        clear HALL HNX HTN hr
        generalize hs : bs l = s at *
        generalize (k.toNat : Int) = ki at *
        go_wp2_with fail
        refine (HRT.out _).mono ?_
        rintro e w1 ⟨rfl, hb1⟩
        have HBL2 := hide (HBL1.out.trans (hb1.mono HBL1.out.size))
        go_wp2_with fail
        go_ret2
        rw [(fr_no HALL2.out).1, (fr_no HALL2.out).2]
        exact ⟨rfl, HBL2.out⟩
      · rw [hr] at HRT
        have hr2 := hr
        simp only [rightR, Bool.and_eq_true, decide_eq_true_eq] at hr2
        have hl2 := hr2.2
        have HHD := hide (show (bs (putL l.length 2) ++ bs [k]) ++ bs l = bs (headR (k, l)) by rw [bs_append, bs_append]; rfl)
        have HP2 := hide (fun W => put_yes ((bs l).size : Int) (by omega) (by rw [bs_size]; omega) 2 (by omega) (by omega) W)
        have HP1 := hide (fun W => put_yes (k.toNat : Int) (by omega) (by have := k.toNat_lt; omega) 1 (by omega) (by omega) W)
        rw [show (2 : Int).toNat = 2 from rfl, Int.toNat_natCast, bs_size] at HP2
        rw [show (1 : Int).toNat = 1 from rfl, Int.toNat_natCast, putL_one] at HP1
        have hw2 : IntKind.u64.wrap (l.length : Int) = (l.length : Int) := wraps_u64 _ (by omega) (by omega)
        have hw1 : IntKind.u64.wrap (k.toNat : Int) = (k.toNat : Int) := wraps_u64 _ (by omega) (by have := k.toNat_lt; omega)
        have hc1 : ¬ 9223372036854775807 < (bs (putL l.length 2)).size + (bs [k]).size := by rw [bs_size, bs_size, putL_length]; simp
        have hc2 : ¬ 9223372036854775807 < (bs (putL l.length 2)).size + (bs [k]).size + (bs l).size := by rw [bs_size, bs_size, bs_size, putL_length]; simp; omega
        have hhl := headR_length (k, l)
        have hrl := recL_length (k, l)
        have HHS := hide (show recL (k, l) = headR (k, l) ++ putL (cN (headR (k, l))) 4 from rfl)
        have hw2' : IntKind.u64.wrap ((bs l).size : Int) = (l.length : Int) := by rw [bs_size]; exact hw2
        have HK := hide (show ((bs l).size : Int) = (l.length : Int) by rw [bs_size])
        dsimp only at hhl hrl
        have HWS1 := hide (fun W h => bldAt_write w.heap.size w.heap.size (frameL (L.take j)) (headR (k, l)) W h (by rw [hhl]; omega))
        have HWS2 := hide (fun W h => bldAt_write w.heap.size w.heap.size (frameL (L.take j) ++ headR (k, l)) (putL (cN (headR (k, l))) 4) W h (by rw [List.length_append, hhl, putL_length]; omega))
        have HSUM := hide (fun W h => rec_sum pb po (headR (k, l)) (by rw [hhl]; omega) W h)
        clear HALL hr2 hhl hrl hw2 hle
        generalize bs (putL l.length 2) = s2 at *
        generalize bs [k] = s1 at *
        generalize bs l = s at *
        have hkl := k.toNat_lt
        have hki : (k.toNat : Int) ≤ 255 := by omega
        have hki0 : (0 : Int) ≤ (k.toNat : Int) := by omega
        generalize (k.toNat : Int) = ki at *
        go_wp2_with fail
        refine (HRT.out _).mono ?_
        rintro e w2 ⟨rfl, hb1⟩
        have HBL2 := hide (HBL1.out.trans (hb1.mono HBL1.out.size))
        have HBD2 := hide (HBD1.out.below hb1)
        have hR2 := (hb1.block _ (heap_lt HRN.out)).trans HRN.out
        have hra := (cell_of_block hR2 0).trans (show _ = some (Value.int .u8 ki) from rfl)
        have hrb := (cell_of_block hR2 1).trans (show _ = some (Value.string s) from rfl)
        have hrlw := heap_lt hR2
        clear hb1 hR2 HBL1 HBD1 HRN HBL HBD HRT d0 d1
        generalize wr.heap.size = rb at *
        go_upto_region 9 with (fail)
        have HBDv0 := hide (show BldAt w.heap.size w.heap.size (frameL (L.take j)) w2.drew from HBD2.out)
        have HBLv0 := hide HBL2.out.drew
        have hrlv0 : rb < w2.drew.heap.size := hrlw
        refine wp_region_held_drew (S := (fun W => W.cell? ⟨rb, 0, none⟩ = some (.int .u8 ki) ∧ W.cell? ⟨rb, 1, none⟩ = some (.string s))) (by kernel_rfl) (⟨hra, hrb⟩) (fun hHeld => ?_)
        generalize w2.drew = v0 at *
        refine wpAnyH_take (i := 0) (oi := { dst := some 21, op := Op.fieldAddr 38 (Operand.tmp 8) 1, type := 0, pos := "rec.go:50", after := #[], guard := none }) (v := ?_) rfl (by kernel_rfl) (by kernel_rfl) (by kernel_rfl) (fun _ _ _ h => h) (Or.inl ⟨by kernel_rfl, ?_⟩) hHeld ?_
        rotate_left
        · (intro w hSw; (try dsimp only at hSw); go_simp); try with_reducible rfl
        try simp only [Act.put, List.setIfInBounds_toArray, List.set_cons_zero, List.set_cons_succ]
        refine wpAnyH_take (i := 1) (oi := { dst := some 22, op := Op.load 9 (Operand.tmp 21), type := 9, pos := "rec.go:50", after := #[{ on := 0, ground := Ground.data }], guard := none }) (v := ?_) rfl (by kernel_rfl) (by kernel_rfl) (by kernel_rfl) (fun _ _ _ h => h) (Or.inl ⟨by kernel_rfl, ?_⟩) hHeld ?_
        rotate_left
        · (intro w hSw; (try dsimp only at hSw); go_simp); try with_reducible rfl
        try simp only [Act.put, List.setIfInBounds_toArray, List.set_cons_zero, List.set_cons_succ]
        refine wpAnyH_take (i := 2) (oi := { dst := some 23, op := Op.call { callee := Callee.builtin Builtin.len, args := #[Operand.tmp 22], argTypes := #[9] }, type := 3, pos := "rec.go:50", after := #[{ on := 1, ground := Ground.data }], guard := none }) (v := ?_) rfl (by kernel_rfl) (by kernel_rfl) (by kernel_rfl) (fun _ _ _ h => h) (Or.inl ⟨by kernel_rfl, ?_⟩) hHeld ?_
        rotate_left
        · (intro w hSw; (try dsimp only at hSw); go_simp); try with_reducible rfl
        try simp only [Act.put, List.setIfInBounds_toArray, List.set_cons_zero, List.set_cons_succ]
        refine wpAnyH_take (i := 3) (oi := { dst := some 24, op := Op.convert 3 62 (Operand.tmp 23), type := 62, pos := "rec.go:50", after := #[{ on := 2, ground := Ground.data }], guard := none }) (v := ?_) rfl (by kernel_rfl) (by kernel_rfl) (by kernel_rfl) (fun _ _ _ h => h) (Or.inl ⟨by kernel_rfl, ?_⟩) hHeld ?_
        rotate_left
        · (intro w hSw; (try dsimp only at hSw); go_simp); try with_reducible rfl
        try simp only [Act.put, List.setIfInBounds_toArray, List.set_cons_zero, List.set_cons_succ]
        refine wpAnyH_take (i := 5) (oi := { dst := some 26, op := Op.fieldAddr 38 (Operand.tmp 8) 0, type := 0, pos := "rec.go:50", after := #[], guard := none }) (v := ?_) rfl (by kernel_rfl) (by kernel_rfl) (by kernel_rfl) (fun _ _ _ h => h) (Or.inl ⟨by kernel_rfl, ?_⟩) hHeld ?_
        rotate_left
        · (intro w hSw; (try dsimp only at hSw); go_simp); try with_reducible rfl
        try simp only [Act.put, List.setIfInBounds_toArray, List.set_cons_zero, List.set_cons_succ]
        refine wpAnyH_take (i := 6) (oi := { dst := some 27, op := Op.load 5 (Operand.tmp 26), type := 5, pos := "rec.go:50", after := #[{ on := 5, ground := Ground.data }], guard := none }) (v := ?_) rfl (by kernel_rfl) (by kernel_rfl) (by kernel_rfl) (fun _ _ _ h => h) (Or.inl ⟨by kernel_rfl, ?_⟩) hHeld ?_
        rotate_left
        · (intro w hSw; (try dsimp only at hSw); go_simp); try with_reducible rfl
        try simp only [Act.put, List.setIfInBounds_toArray, List.set_cons_zero, List.set_cons_succ]
        refine wpAnyH_take (i := 7) (oi := { dst := some 28, op := Op.convert 5 62 (Operand.tmp 27), type := 62, pos := "rec.go:50", after := #[{ on := 6, ground := Ground.data }], guard := none }) (v := ?_) rfl (by kernel_rfl) (by kernel_rfl) (by kernel_rfl) (fun _ _ _ h => h) (Or.inl ⟨by kernel_rfl, ?_⟩) hHeld ?_
        rotate_left
        · (intro w hSw; (try dsimp only at hSw); go_simp); try with_reducible rfl
        try simp only [Act.put, List.setIfInBounds_toArray, List.set_cons_zero, List.set_cons_succ]
        refine wpAnyH_take (i := 10) (oi := { dst := some 31, op := Op.fieldAddr 38 (Operand.tmp 8) 1, type := 0, pos := "rec.go:50", after := #[], guard := none }) (v := ?_) rfl (by kernel_rfl) (by kernel_rfl) (by kernel_rfl) (fun _ _ _ h => h) (Or.inl ⟨by kernel_rfl, ?_⟩) hHeld ?_
        rotate_left
        · (intro w hSw; (try dsimp only at hSw); go_simp); try with_reducible rfl
        try simp only [Act.put, List.setIfInBounds_toArray, List.set_cons_zero, List.set_cons_succ]
        refine wpAnyH_take (i := 11) (oi := { dst := some 32, op := Op.load 9 (Operand.tmp 31), type := 9, pos := "rec.go:50", after := #[{ on := 10, ground := Ground.data }], guard := none }) (v := ?_) rfl (by kernel_rfl) (by kernel_rfl) (by kernel_rfl) (fun _ _ _ h => h) (Or.inl ⟨by kernel_rfl, ?_⟩) hHeld ?_
        rotate_left
        · (intro w hSw; (try dsimp only at hSw); go_simp); try with_reducible rfl
        try simp only [Act.put, List.setIfInBounds_toArray, List.set_cons_zero, List.set_cons_succ]
        refine wpAnyH_ready (rs := [4]) (by kernel_rfl) (by simp) (AllReadyH.cons (o := { dst := some 25, op := Op.call { callee := Callee.value (Operand.func 16), args := #[Operand.tmp 24, Operand.const (Value.int IntKind.i64 2)], argTypes := #[62, 3] }, type := 9, pos := "rec.go:50", after := #[{ on := 3, ground := Ground.data }], guard := none }) rfl (fun K hK => ?_) AllReadyH.nil)
        have hOld := hide hHeld
        clear hHeld
        go_simp
        refine (HP2.out _).mono ?_
        rintro e v4 ⟨rfl, hb⟩
        have HBDv4 := hide (HBDv0.out.below hb)
        have HBLv4 := hide (HBLv0.out.trans (hb.mono (HBLv0.out.size)))
        have ht4a := (hb.cell (p := ⟨rb, 0, none⟩) (by exact hrlv0)).trans hOld.out.1
        have ht4b := (hb.cell (p := ⟨rb, 1, none⟩) (by exact hrlv0)).trans hOld.out.2
        have hrlv4 : rb < v4.heap.size := Nat.lt_of_lt_of_le hrlv0 hb.size
        clear hb
        (try go_wp2_with fail)
        refine hK.out _ _ (⟨ht4a, ht4b⟩) (fun hHeld => ?_)
        clear hK K hOld
        try simp only [Act.put, List.setIfInBounds_toArray, List.set_cons_zero, List.set_cons_succ]
        refine wpAnyH_ready (rs := [8]) (by kernel_rfl) (by simp) (AllReadyH.cons (o := { dst := some 29, op := Op.call { callee := Callee.value (Operand.func 16), args := #[Operand.tmp 28, Operand.const (Value.int IntKind.i64 1)], argTypes := #[62, 3] }, type := 9, pos := "rec.go:50", after := #[{ on := 7, ground := Ground.data }, { on := 4, ground := Ground.chain }], guard := none }) rfl (fun K hK => ?_) AllReadyH.nil)
        have hOld := hide hHeld
        clear hHeld
        go_simp
        refine (HP1.out _).mono ?_
        rintro e v8 ⟨rfl, hb⟩
        have HBDv8 := hide (HBDv4.out.below hb)
        have HBLv8 := hide (HBLv4.out.trans (hb.mono (HBLv4.out.size)))
        have ht8a := (hb.cell (p := ⟨rb, 0, none⟩) (by exact hrlv4)).trans hOld.out.1
        have ht8b := (hb.cell (p := ⟨rb, 1, none⟩) (by exact hrlv4)).trans hOld.out.2
        have hrlv8 : rb < v8.heap.size := Nat.lt_of_lt_of_le hrlv4 hb.size
        clear hb
        (try go_wp2_with fail)
        refine hK.out _ _ (⟨ht8a, ht8b⟩) (fun hHeld => ?_)
        clear hK K hOld
        try simp only [Act.put, List.setIfInBounds_toArray, List.set_cons_zero, List.set_cons_succ]
        refine wpAnyH_take (i := 9) (oi := { dst := some 30, op := Op.binOp BinOp.add 9 (Operand.tmp 25) (Operand.tmp 29) 9, type := 9, pos := "rec.go:50", after := #[{ on := 4, ground := Ground.data }, { on := 8, ground := Ground.data }], guard := none }) (v := ?_) rfl (by kernel_rfl) (by kernel_rfl) (by kernel_rfl) (fun _ _ _ h => h) (Or.inl ⟨by kernel_rfl, ?_⟩) hHeld ?_
        rotate_left
        · (intro w hSw; (try dsimp only at hSw); go_simp); try with_reducible rfl
        try simp only [Act.put, List.setIfInBounds_toArray, List.set_cons_zero, List.set_cons_succ]
        refine wpAnyH_take (i := 12) (oi := { dst := some 33, op := Op.binOp BinOp.add 9 (Operand.tmp 30) (Operand.tmp 32) 9, type := 9, pos := "rec.go:50", after := #[{ on := 9, ground := Ground.data }, { on := 11, ground := Ground.data }], guard := none }) (v := ?_) rfl (by kernel_rfl) (by kernel_rfl) (by kernel_rfl) (fun _ _ _ h => h) (Or.inl ⟨by kernel_rfl, ?_⟩) hHeld ?_
        rotate_left
        · (intro w hSw; (try dsimp only at hSw); go_simp); try with_reducible rfl
        try simp only [Act.put, List.setIfInBounds_toArray, List.set_cons_zero, List.set_cons_succ]
        refine wpAnyH_take (i := 13) (oi := { dst := some 9, op := Op.assign (Operand.tmp 33), type := 9, pos := "rec.go:50", after := #[{ on := 12, ground := Ground.data }, { on := 8, ground := Ground.chain }, { on := 0, ground := Ground.phase }, { on := 1, ground := Ground.phase }, { on := 2, ground := Ground.phase }, { on := 3, ground := Ground.phase }, { on := 4, ground := Ground.phase }, { on := 5, ground := Ground.phase }, { on := 6, ground := Ground.phase }, { on := 7, ground := Ground.phase }, { on := 8, ground := Ground.phase }, { on := 9, ground := Ground.phase }, { on := 10, ground := Ground.phase }, { on := 11, ground := Ground.phase }, { on := 12, ground := Ground.phase }], guard := none }) (v := ?_) rfl (by kernel_rfl) (by kernel_rfl) (by kernel_rfl) (fun _ _ _ h => h) (Or.inl ⟨by kernel_rfl, ?_⟩) hHeld ?_
        rotate_left
        · (intro w hSw; (try dsimp only at hSw); go_simp); try with_reducible rfl
        try simp only [Act.put, List.setIfInBounds_toArray, List.set_cons_zero, List.set_cons_succ]
        refine wpAnyH_done (by kernel_rfl) ?_ _
        clear hHeld HBDv0 HBLv0 HBDv4 HBLv4 HP1 HP2
        go_wp2_with fail
        rw [HHD.out]
        refine (HWS1.out _ HBDv8.out HBLv8.out.size).mono ?_
        rintro e w5 ⟨rfl, hbd5, hb5⟩
        have HBD5 := hide hbd5
        have HBL5 := hide (HBLv8.out.trans hb5)
        clear hbd5 hb5 HBDv8 HBLv8
        go_wp2_with fail
        refine (HSUM.out _ (tabAt_below HT.out HBL5.out hpl)).mono ?_
        rintro e w6 ⟨rfl, hb6⟩
        have HBD6 := hide (HBD5.out.below hb6)
        have HBL6 := hide (HBL5.out.trans (hb6.mono HBL5.out.size))
        clear hb6 HBD5 HBL5 HSUM
        go_wp2_with fail
        refine (HWS2.out _ HBD6.out HBL6.out.size).mono ?_
        rintro e w7 ⟨rfl, hbd7, hb7⟩
        have HBD7 := hide hbd7
        have HBL7 := hide (HBL6.out.trans hb7)
        clear hbd7 hb7 HBD6 HBL6
        go_wp2_with fail
        go_roundw
        case rel =>
          refine ⟨j + 1, by omega, by go_num, ?_, HBL7.out, fun x hx => ?_⟩
          · rw [HNX.out, HHS.out, ← List.append_assoc]; exact HBD7.out
          · rw [HTN.out, List.mem_append, List.mem_singleton] at hx
            rcases hx with hx | rfl
            · exact HOK.out x hx
            · exact hr
        case measure => simp [intOf]; omega
    · obtain rfl : j = L.length := by omega
      have HALL := hide (show L.all rightR = true by
        rw [List.all_eq_true]
        intro x hx
        exact HOK.out x (by rwa [List.take_length]))
      have HST := hide (bldAt_string w.heap.size w.heap.size (frameL (L.take L.length)) wr HBD.out HBL.out.size)
      rw [List.take_length] at HST
      go_wp2_with fail
      refine HST.out.mono ?_
      rintro e w1 ⟨rfl, hb1⟩
      have HBL2 := hide (HBL.out.trans hb1)
      go_wp2_with fail
      go_ret2
      rw [(fr_yes HALL.out).1, (fr_yes HALL.out).2]
      exact ⟨rfl, HBL2.out⟩
theorem frame_nil (a : Option Addr) (n cap : Nat) (w : World) :
    Calls Try.prog 9 #[.pointer none, .slice a n cap] w fun e w' => e = .returned (.tuple #[.string (bs []), .int .i64 1]) ∧ Below w.heap.size w w' := by
  go_enter Try.func9, Try.ntmps9
  go_wp2_with fail
  go_ret2
  exact ⟨rfl, Below.refl _ _⟩
end Go.Proofs.Ytdjaldkjpmcbdaa
