/-
  Layer 19, the program's calls: first, Parse by contract.
-/
import Derived.Test.YtdjaldkjpmcbdaaRec
namespace Go.Proofs.Ytdjaldkjpmcbdaa
set_option linter.unusedSimpArgs false
set_option linter.unusedVariables false
open Go.RowKit Go.WideShapes Go.ChangeShapes Go.ChangeAt

theorem bs_extract (l : List UInt8) (a b : Nat) : (bs l).extract a b = bs ((l.drop a).take (b - a)) := by
  apply ByteArray.ext
  simp [bs, List.extract_eq_take_drop]
theorem bs_to (l : List UInt8) (b : Nat) : (bs l).extract 0 b = bs (l.take b) := by rw [bs_extract]; simp
theorem bs_from (l : List UInt8) (a n : Nat) (h : n = l.length) : (bs l).extract a n = bs (l.drop a) := by rw [bs_extract, List.take_of_length_le (by simp; omega)]
theorem bs_asList (a : List UInt8) : (bs a).toList = a := by rw [Lib.toList_data]; rfl
theorem str_ne {a b : List UInt8} (h : ¬ a = b) : ((bs a).toList == (bs b).toList) = false := by rw [bs_asList, bs_asList, beq_eq_false_iff_ne]; exact h
def firstZ (s : List UInt8) : Rc := if errR s = 0 then firstR s else rc0
theorem res_rec {fn : Func} {p u : Tmp} (h : fn.results = #[.cell p 38, .tmp u]) (tmps : Array Value) (w : World) (A : Nat) (r : Rc) (x : Value)
    (hp : tmps.getD p undef = .pointer (some ⟨A, 0, none⟩)) (hu : tmps.getD u undef = x) (hg : w.heap[A]? = some (.cells #[.int .u8 (r.1.toNat : Int), .string (bs r.2)] 38 (0, 0))) : (results fn tmps).run Try.prog w = .ok (.tuple #[.agg #[.int .u8 (r.1.toNat : Int), .string (bs r.2)], x]) w := by
  rw [results_cell_tmp h, hp, hu]
  simp [asAddr, Result.andThen, run_loadVar_row w A 38 38 _ _ _ hg Try.underlying38 rfl (by kernel_rfl)]
theorem rec_facts {W : World} {b : Nat} {x0 x1 : Value} {t : TypeId} (h : W.heap[b]? = some (.cells #[x0, x1] t (0, 0))) : W.cell? ⟨b, 0, none⟩ = some x0 ∧ W.cell? ⟨b, 1, none⟩ = some x1 ∧ W.frozen? ⟨b, 0, none⟩ = false ∧ W.frozen? ⟨b, 1, none⟩ = false :=
  ⟨cell_of_block h 0, cell_of_block h 1, frozen_of_block h 0, frozen_of_block h 1⟩
theorem rec_put {W : World} {b : Nat} {x0 x1 y0 y1 : Value} {t : TypeId} (h : W.heap[b]? = some (.cells #[x0, x1] t (0, 0))) : ((W.setCell ⟨b, 0, none⟩ y0).setCell ⟨b, 1, none⟩ y1).heap[b]? = some (.cells #[y0, y1] t (0, 0)) := by
  rw [block_setCell (block_setCell h 0 y0) 1 y1]; rfl
theorem below_put {B : Nat} {a W : World} (h : Below B a W) {b : Nat} (hb : B ≤ b) (y0 y1 : Value) : Below B a ((W.setCell ⟨b, 0, none⟩ y0).setCell ⟨b, 1, none⟩ y1) := (h.setCell (p := ⟨b, 0, none⟩) hb _).setCell (p := ⟨b, 1, none⟩) hb _
set_option maxRecDepth 100000 in
set_option maxHeartbeats 400000 in
theorem recFirst_any (pb po : Nat) (s : List UInt8) (hs : s.length ≤ 1000000) (w : World) (ht : TabAt w pb po) :
    Calls Try.prog 22 #[.pointer (some ⟨pb, po, none⟩), .string (bs s)] w fun e w' => e = .returned (.tuple #[.agg #[.int .u8 ((firstZ s).1.toNat : Int), .string (bs (firstZ s).2)], .int .i64 (errR s)]) ∧ Below w.heap.size w w' := by
  have HT := hide ht
  have hpl := tabAt_lt ht
  clear ht
  have hsz : (bs s).size = s.length := bs_size s
  by_cases h7 : s.length < 7
  · have h7' : (s.length : Int) < 7 := by omega
    have hE : errR s = 4 := by unfold errR; rw [if_neg fun h => by have := h.1; omega]
    have hZ : firstZ s = rc0 := by unfold firstZ; rw [hE]; rfl
    rw [hE, hZ]
    have HRES := hide (res_rec (fn := Try.f22) Try.results22)
    have HB := hide ((Below.refl w.heap.size w).alloc (Nat.le_refl _) (.cells #[.int .u8 0, .string ⟨#[]⟩] 38))
    have HN := hide (heap_new w (.cells #[.int .u8 0, .string ⟨#[]⟩] 38))
    go_enter Try.func22, Try.ntmps22
    go_wp2_with fail
    exact bodyPost_ret (HRES.out _ _ w.heap.size rc0 _ rfl rfl HN.out) rfl ⟨rfl, HB.out⟩
  · have h7' : ¬ (s.length : Int) < 7 := by omega
    have HGET := hide (fun W => get_any (bs (s.take 2)) (by rw [bs_size]; simp; omega) W)
    rw [show (bs (s.take 2)).data.toList = s.take 2 from rfl, show last8 (s.take 2) = s.take 2 by unfold last8; rw [show (s.take 2).length - 8 = 0 by simp; omega, List.drop_zero]] at HGET
    have hto := bs_to s 2
    have hgl := getN_lt (s.take 2)
    have hgl2 : getN (s.take 2) < 65536 := by
      have h2 : (s.take 2).length = 2 := by simp; omega
      rw [h2] at hgl
      omega
    have HLN := hide (show lenR s = getN (s.take 2) from rfl)
    generalize getN (s.take 2) = n at *
    have hni : (n : Int) ≤ 65535 := by omega
    have hwn : IntKind.i64.wrap (n : Int) = (n : Int) := by rw [IntKind.wrap_i64]; omega
    have HB := hide ((Below.refl w.heap.size w).alloc (Nat.le_refl _) (.cells #[.int .u8 0, .string ⟨#[]⟩] 38))
    have HN := hide (heap_new w (.cells #[.int .u8 0, .string ⟨#[]⟩] 38))
    clear hgl hgl2
    have HZI := hide (show (Try.prog.info? 38).map (·.size) = some (#[Value.int .u8 0, .string ⟨#[]⟩] : Array Value).size by kernel_rfl)
    by_cases hn : 7 + n ≤ s.length
    · have hn' : ¬ (s.length : Int) < 3 + (n : Int) + 4 := by omega
      go_enter Try.func22, Try.ntmps22
      go_wp2_with fail
      refine (HGET.out _).mono ?_
      rintro e w1 ⟨rfl, hb1⟩
      have HN1 := hide ((hb1.block _ (heap_lt HN.out)).trans HN.out)
      have HB1 := hide (HB.out.trans (hb1.mono HB.out.size))
      clear hb1 HN HB
      go_upto_region 6 with (fail)
      have hi2 : (2 : Int) < (s.length : Int) := by omega
      have hi3 : (3 : Int) ≤ 3 + (n : Int) := by omega
      have hi4 : 3 + (n : Int) ≤ (s.length : Int) := by omega
      have hi5 : (0 : Int) ≤ 3 + (n : Int) := by omega
      have hi6 : 3 + (n : Int) ≤ 3 + (n : Int) + 4 := by omega
      have hi7 : (0 : Int) ≤ 3 + (n : Int) + 4 := by omega
      have htn1 : (3 + (n : Int)).toNat = 3 + n := by omega
      have htn2 : (3 + (n : Int) + 4).toNat = 3 + n + 4 := by omega
      have hw4 : IntKind.i64.wrap (3 + (n : Int) + 4) = 3 + (n : Int) + 4 := by rw [IntKind.wrap_i64]; omega
      have hidx : ∀ h : 2 < (bs s).size, (bs s)[2]'h = kindR s := fun h => by
        unfold kindR
        have h2 : 2 < s.length := by omega
        have e : (bs s)[2]'h = s[2] := rfl
        rw [e]
        simp [List.getD, h2]
      have hext : (bs s).extract 3 (3 + n) = bs ((s.drop 3).take n) := by rw [bs_extract, show 3 + n - 3 = n by omega]
      have hto2 : (bs s).extract 0 (3 + n) = bs (s.take (3 + n)) := bs_to s _
      have hsl : (bs s).extract (3 + n) (3 + n + 4) = bs ((s.drop (3 + n)).take 4) := by rw [bs_extract, show 3 + n + 4 - (3 + n) = 4 by omega]
      have HFR := hide (show firstR s = (kindR s, (s.drop 3).take n) by unfold firstR; rw [HLN.out])
      have HRT := hide (fun W => rec_right (kindR s, (s.drop 3).take n) W)
      have HSM := hide (fun W h => rec_sum pb po (s.take (3 + n)) (by simp; omega) W h)
      have HFIT := hide (show rightR (kindR s, (s.drop 3).take n) = true → fitR s from fun h => by
        simp only [rightR, Bool.and_eq_true, decide_eq_true_eq] at h
        refine ⟨by omega, h.1, ?_, by rw [HLN.out]; exact hn⟩
        have h2 := h.2
        rw [List.length_take, List.length_drop] at h2
        rw [HLN.out]
        omega)
      have HNFIT := hide (show rightR (kindR s, (s.drop 3).take n) = false → ¬ fitR s from fun h hf => by
        have := firstR_right s hf
        rw [HFR.out, h] at this
        cases this)
      have HSO := hide (show sumOk s ↔ putL (cN (s.take (3 + n))) 4 = (s.drop (3 + n)).take 4 by unfold sumOk; rw [HLN.out])
      go_region
      have HW2 := hide (show (w1.alloc (Obj.cells #[Value.int IntKind.u8 ↑(kindR s).toNat, Value.string (bs ((s.drop 3).take n))] 38)).drew.heap[w1.heap.size]? = some (.cells #[Value.int IntKind.u8 ↑(kindR s).toNat, Value.string (bs ((s.drop 3).take n))] 38 (0, 0)) from heap_new w1 _)
      have HN2 := hide (show (w1.alloc (Obj.cells #[Value.int IntKind.u8 ↑(kindR s).toNat, Value.string (bs ((s.drop 3).take n))] 38)).drew.heap[w.heap.size]? = some (.cells #[.int .u8 0, .string ⟨#[]⟩] 38 (0, 0)) from (heap_old w1 _ _ (heap_lt HN1.out)).trans HN1.out)
      have HB2 := hide (HB1.out.alloc HB1.out.size (Obj.cells #[Value.int IntKind.u8 ↑(kindR s).toNat, Value.string (bs ((s.drop 3).take n))] 38)).drew
      have hne : w.heap.size ≠ w1.heap.size := by have := heap_lt HN1.out; omega
      generalize (w1.alloc (Obj.cells #[Value.int IntKind.u8 ↑(kindR s).toNat, Value.string (bs ((s.drop 3).take n))] 38)).drew = w2 at *
      generalize w1.heap.size = rb at *
      obtain ⟨e0, e1, -, -⟩ := rec_facts HW2.out
      clear HN1 HB1 hidx hext hto hi2 hi3 HLN
      have HRES := hide (res_rec (fn := Try.f22) Try.results22)
      cases hr : rightR (kindR s, (s.drop 3).take n)
      · have hE : errR s = 4 := by unfold errR; rw [if_neg (HNFIT.out hr)]
        have hZ : firstZ s = rc0 := by unfold firstZ; rw [hE]; rfl
        have HE := hide hE
        have HZZ := hide hZ
        rw [hr] at HRT
        clear hr HNFIT HFIT HSO HFR hE hZ
        generalize bs ((s.drop 3).take n) = l at *
        generalize ((kindR s).toNat : Int) = k at *
        go_wp2_with fail
        refine (HRT.out _).mono ?_
        rintro e w3 ⟨rfl, hb3⟩
        have HN3 := hide ((hb3.block _ (heap_lt HN2.out)).trans HN2.out)
        have HB3 := hide (HB2.out.trans (hb3.mono HB2.out.size))
        clear hb3 HN2 HB2 e0 e1
        obtain ⟨c0, c1, f0, f1⟩ := rec_facts HN3.out
        go_wp2_with fail
        exact bodyPost_ret (HRES.out _ _ w.heap.size rc0 _ rfl rfl (rec_put HN3.out)) rfl ⟨by rw [HE.out, HZZ.out]; rfl, below_put HB3.out (Nat.le_refl _) _ _⟩
      · have hf := HFIT.out hr
        have hE : errR s = if sumOk s then 0 else 5 := by unfold errR; rw [if_pos hf]
        rw [hr] at HRT
        clear hr HNFIT HFIT hf
        by_cases hso : sumOk s
        · rw [if_pos hso] at hE
          have hZ : firstZ s = (kindR s, (s.drop 3).take n) := by unfold firstZ; rw [hE, if_pos rfl, HFR.out]
          have HE := hide hE
          have HZZ := hide hZ
          have h4 := HSO.out.1 hso
          rw [← h4] at hsl
          clear hso hE hZ HFR HSO h4
          generalize bs (putL (cN (s.take (3 + n))) 4) = z at *
          generalize kindR s = kk at *
          generalize (s.drop 3).take n = ll at *
          dsimp only at HRT
          go_wp2_with fail
          refine (HRT.out _).mono ?_
          rintro e w3 ⟨rfl, hb3⟩
          have HN3 := hide ((hb3.block _ (heap_lt HN2.out)).trans HN2.out)
          have HW3 := hide ((hb3.block _ (heap_lt HW2.out)).trans HW2.out)
          have HB3 := hide (HB2.out.trans (hb3.mono HB2.out.size))
          clear hb3 HN2 HB2 HW2 e0 e1
          go_upto_region 9 with (fail)
          have HTv0 := hide (tabAt_below HT.out HB3.out.drew hpl)
          have HNv0 := hide (show w3.drew.heap[w.heap.size]? = _ from HN3.out)
          have HWv0 := hide (show w3.drew.heap[rb]? = _ from HW3.out)
          have HBv0 := hide HB3.out.drew
          refine wp_region_held_drew (S := (fun _ => True)) (by kernel_rfl) (trivial) (fun hHeld => ?_)
          generalize w3.drew = v0 at *
          refine wpAnyH_take (i := 0) (oi := { dst := some 33, op := Op.move (Operand.tmp 0), type := 34, pos := "rec.go:87", after := #[], guard := none }) (v := ?_) rfl (by kernel_rfl) (by kernel_rfl) (by kernel_rfl) (fun _ _ _ h => h) (Or.inl ⟨by kernel_rfl, ?_⟩) hHeld ?_
          rotate_left
          · (intro w hSw; (try dsimp only at hSw); go_simp); try with_reducible rfl
          try simp only [Act.put, List.setIfInBounds_toArray, List.set_cons_zero, List.set_cons_succ]
          refine wpAnyH_take (i := 1) (oi := { dst := some 34, op := Op.move (Operand.tmp 1), type := 9, pos := "rec.go:87", after := #[], guard := none }) (v := ?_) rfl (by kernel_rfl) (by kernel_rfl) (by kernel_rfl) (fun _ _ _ h => h) (Or.inl ⟨by kernel_rfl, ?_⟩) hHeld ?_
          rotate_left
          · (intro w hSw; (try dsimp only at hSw); go_simp); try with_reducible rfl
          try simp only [Act.put, List.setIfInBounds_toArray, List.set_cons_zero, List.set_cons_succ]
          refine wpAnyH_take (i := 2) (oi := { dst := some 35, op := Op.move (Operand.tmp 6), type := 3, pos := "rec.go:87", after := #[], guard := none }) (v := ?_) rfl (by kernel_rfl) (by kernel_rfl) (by kernel_rfl) (fun _ _ _ h => h) (Or.inl ⟨by kernel_rfl, ?_⟩) hHeld ?_
          rotate_left
          · (intro w hSw; (try dsimp only at hSw); go_simp); try with_reducible rfl
          try simp only [Act.put, List.setIfInBounds_toArray, List.set_cons_zero, List.set_cons_succ]
          refine wpAnyH_take (i := 3) (oi := { dst := some 36, op := Op.slice 9 (Operand.tmp 34) none (some (Operand.tmp 35)) none, type := 9, pos := "rec.go:87", after := #[{ on := 1, ground := Ground.data }, { on := 2, ground := Ground.data }], guard := none }) (v := ?_) rfl (by kernel_rfl) (by kernel_rfl) (by kernel_rfl) (fun _ _ _ h => h) (Or.inl ⟨by kernel_rfl, ?_⟩) hHeld ?_
          rotate_left
          · (intro w hSw; (try dsimp only at hSw); go_simp); try with_reducible rfl
          try simp only [Act.put, List.setIfInBounds_toArray, List.set_cons_zero, List.set_cons_succ]
          refine wpAnyH_take (i := 5) (oi := { dst := some 38, op := Op.move (Operand.tmp 1), type := 9, pos := "rec.go:87", after := #[], guard := none }) (v := ?_) rfl (by kernel_rfl) (by kernel_rfl) (by kernel_rfl) (fun _ _ _ h => h) (Or.inl ⟨by kernel_rfl, ?_⟩) hHeld ?_
          rotate_left
          · (intro w hSw; (try dsimp only at hSw); go_simp); try with_reducible rfl
          try simp only [Act.put, List.setIfInBounds_toArray, List.set_cons_zero, List.set_cons_succ]
          refine wpAnyH_take (i := 6) (oi := { dst := some 39, op := Op.move (Operand.tmp 6), type := 3, pos := "rec.go:87", after := #[], guard := none }) (v := ?_) rfl (by kernel_rfl) (by kernel_rfl) (by kernel_rfl) (fun _ _ _ h => h) (Or.inl ⟨by kernel_rfl, ?_⟩) hHeld ?_
          rotate_left
          · (intro w hSw; (try dsimp only at hSw); go_simp); try with_reducible rfl
          try simp only [Act.put, List.setIfInBounds_toArray, List.set_cons_zero, List.set_cons_succ]
          refine wpAnyH_take (i := 7) (oi := { dst := some 40, op := Op.move (Operand.tmp 6), type := 3, pos := "rec.go:87", after := #[], guard := none }) (v := ?_) rfl (by kernel_rfl) (by kernel_rfl) (by kernel_rfl) (fun _ _ _ h => h) (Or.inl ⟨by kernel_rfl, ?_⟩) hHeld ?_
          rotate_left
          · (intro w hSw; (try dsimp only at hSw); go_simp); try with_reducible rfl
          try simp only [Act.put, List.setIfInBounds_toArray, List.set_cons_zero, List.set_cons_succ]
          refine wpAnyH_take (i := 8) (oi := { dst := some 41, op := Op.binOp BinOp.add 3 (Operand.tmp 40) (Operand.const (Value.int IntKind.i64 4)) 3, type := 3, pos := "rec.go:87", after := #[{ on := 7, ground := Ground.data }], guard := none }) (v := ?_) rfl (by kernel_rfl) (by kernel_rfl) (by kernel_rfl) (fun _ _ _ h => h) (Or.inl ⟨by kernel_rfl, ?_⟩) hHeld ?_
          rotate_left
          · (intro w hSw; (try dsimp only at hSw); go_simp); try with_reducible rfl
          try simp only [Act.put, List.setIfInBounds_toArray, List.set_cons_zero, List.set_cons_succ]
          refine wpAnyH_take (i := 9) (oi := { dst := some 42, op := Op.slice 9 (Operand.tmp 38) (some (Operand.tmp 39)) (some (Operand.tmp 41)) none, type := 9, pos := "rec.go:87", after := #[{ on := 5, ground := Ground.data }, { on := 6, ground := Ground.data }, { on := 8, ground := Ground.data }], guard := none }) (v := ?_) rfl (by kernel_rfl) (by kernel_rfl) (by kernel_rfl) (fun _ _ _ h => h) (Or.inl ⟨by kernel_rfl, ?_⟩) hHeld ?_
          rotate_left
          · (intro w hSw; (try dsimp only at hSw); go_simp); try with_reducible rfl
          try simp only [Act.put, List.setIfInBounds_toArray, List.set_cons_zero, List.set_cons_succ]
          refine wpAnyH_ready (rs := [4]) (by kernel_rfl) (by simp) (AllReadyH.cons (o := { dst := some 37, op := Op.call { callee := Callee.value (Operand.func 18), args := #[Operand.tmp 33, Operand.tmp 36], argTypes := #[34, 9] }, type := 9, pos := "rec.go:87", after := #[{ on := 0, ground := Ground.data }, { on := 3, ground := Ground.data }], guard := none }) rfl (fun K hK => ?_) AllReadyH.nil)
          have hOld := hide hHeld
          clear hHeld
          go_simp
          (try rw [htn1]); (try rw [hto2])
          refine (HSM.out _ HTv0.out).mono ?_
          rintro e v4 ⟨rfl, hb⟩
          have HNv4 := hide ((hb.block _ (heap_lt HNv0.out)).trans HNv0.out)
          have HWv4 := hide ((hb.block _ (heap_lt HWv0.out)).trans HWv0.out)
          have HBv4 := hide (HBv0.out.trans (hb.mono HBv0.out.size))
          clear hb
          (try go_wp2_with fail)
          refine hK.out _ _ (trivial) (fun hHeld => ?_)
          clear hK K hOld
          try simp only [Act.put, List.setIfInBounds_toArray, List.set_cons_zero, List.set_cons_succ]
          refine wpAnyH_take (i := 10) (oi := { dst := some 43, op := Op.binOp BinOp.neq 9 (Operand.tmp 37) (Operand.tmp 42) 9, type := 4, pos := "rec.go:87", after := #[{ on := 4, ground := Ground.data }, { on := 9, ground := Ground.data }], guard := none }) (v := ?_) rfl (by kernel_rfl) (by kernel_rfl) (by kernel_rfl) (fun _ _ _ h => h) (Or.inl ⟨by kernel_rfl, ?_⟩) hHeld ?_
          rotate_left
          · (intro w hSw; (try dsimp only at hSw); go_simp); try with_reducible rfl
          try simp only [Act.put, List.setIfInBounds_toArray, List.set_cons_zero, List.set_cons_succ]
          refine wpAnyH_done (by kernel_rfl) ?_ _
          clear HN3 HW3 HB3 HNv0 HWv0 HBv0 HTv0 hHeld
          obtain ⟨c0, c1, f0, f1⟩ := rec_facts HNv4.out
          obtain ⟨e0, e1, -, -⟩ := rec_facts HWv4.out
          go_wp2_with fail
          exact bodyPost_ret (HRES.out _ _ w.heap.size (kk, ll) _ rfl rfl (rec_put HNv4.out)) rfl ⟨by rw [HE.out, HZZ.out]; rfl, below_put HBv4.out (Nat.le_refl _) _ _⟩
        · rw [if_neg hso] at hE
          have hZ : firstZ s = rc0 := by unfold firstZ; rw [hE]; rfl
          have HE := hide hE
          have HZZ := hide hZ
          have h4 : ¬ bs (putL (cN (s.take (3 + n))) 4) = bs ((s.drop (3 + n)).take 4) := fun h => hso (HSO.out.2 (by simpa [bs] using h))
          have h4b : ((bs (putL (cN (s.take (3 + n))) 4)).toList == (bs ((s.drop (3 + n)).take 4)).toList) = false := str_ne fun h => hso (HSO.out.2 h)
          clear hso hE hZ HFR HSO
          generalize bs (putL (cN (s.take (3 + n))) 4) = z at *
          generalize bs ((s.drop (3 + n)).take 4) = y at *
          generalize bs ((s.drop 3).take n) = l at *
          generalize ((kindR s).toNat : Int) = k at *
          go_wp2_with fail
          refine (HRT.out _).mono ?_
          rintro e w3 ⟨rfl, hb3⟩
          have HN3 := hide ((hb3.block _ (heap_lt HN2.out)).trans HN2.out)
          have HW3 := hide ((hb3.block _ (heap_lt HW2.out)).trans HW2.out)
          have HB3 := hide (HB2.out.trans (hb3.mono HB2.out.size))
          clear hb3 HN2 HB2 HW2 e0 e1
          go_upto_region 9 with (fail)
          have HTv0 := hide (tabAt_below HT.out HB3.out.drew hpl)
          have HNv0 := hide (show w3.drew.heap[w.heap.size]? = _ from HN3.out)
          have HWv0 := hide (show w3.drew.heap[rb]? = _ from HW3.out)
          have HBv0 := hide HB3.out.drew
          refine wp_region_held_drew (S := (fun _ => True)) (by kernel_rfl) (trivial) (fun hHeld => ?_)
          generalize w3.drew = v0 at *
          refine wpAnyH_take (i := 0) (oi := { dst := some 33, op := Op.move (Operand.tmp 0), type := 34, pos := "rec.go:87", after := #[], guard := none }) (v := ?_) rfl (by kernel_rfl) (by kernel_rfl) (by kernel_rfl) (fun _ _ _ h => h) (Or.inl ⟨by kernel_rfl, ?_⟩) hHeld ?_
          rotate_left
          · (intro w hSw; (try dsimp only at hSw); go_simp); try with_reducible rfl
          try simp only [Act.put, List.setIfInBounds_toArray, List.set_cons_zero, List.set_cons_succ]
          refine wpAnyH_take (i := 1) (oi := { dst := some 34, op := Op.move (Operand.tmp 1), type := 9, pos := "rec.go:87", after := #[], guard := none }) (v := ?_) rfl (by kernel_rfl) (by kernel_rfl) (by kernel_rfl) (fun _ _ _ h => h) (Or.inl ⟨by kernel_rfl, ?_⟩) hHeld ?_
          rotate_left
          · (intro w hSw; (try dsimp only at hSw); go_simp); try with_reducible rfl
          try simp only [Act.put, List.setIfInBounds_toArray, List.set_cons_zero, List.set_cons_succ]
          refine wpAnyH_take (i := 2) (oi := { dst := some 35, op := Op.move (Operand.tmp 6), type := 3, pos := "rec.go:87", after := #[], guard := none }) (v := ?_) rfl (by kernel_rfl) (by kernel_rfl) (by kernel_rfl) (fun _ _ _ h => h) (Or.inl ⟨by kernel_rfl, ?_⟩) hHeld ?_
          rotate_left
          · (intro w hSw; (try dsimp only at hSw); go_simp); try with_reducible rfl
          try simp only [Act.put, List.setIfInBounds_toArray, List.set_cons_zero, List.set_cons_succ]
          refine wpAnyH_take (i := 3) (oi := { dst := some 36, op := Op.slice 9 (Operand.tmp 34) none (some (Operand.tmp 35)) none, type := 9, pos := "rec.go:87", after := #[{ on := 1, ground := Ground.data }, { on := 2, ground := Ground.data }], guard := none }) (v := ?_) rfl (by kernel_rfl) (by kernel_rfl) (by kernel_rfl) (fun _ _ _ h => h) (Or.inl ⟨by kernel_rfl, ?_⟩) hHeld ?_
          rotate_left
          · (intro w hSw; (try dsimp only at hSw); go_simp); try with_reducible rfl
          try simp only [Act.put, List.setIfInBounds_toArray, List.set_cons_zero, List.set_cons_succ]
          refine wpAnyH_take (i := 5) (oi := { dst := some 38, op := Op.move (Operand.tmp 1), type := 9, pos := "rec.go:87", after := #[], guard := none }) (v := ?_) rfl (by kernel_rfl) (by kernel_rfl) (by kernel_rfl) (fun _ _ _ h => h) (Or.inl ⟨by kernel_rfl, ?_⟩) hHeld ?_
          rotate_left
          · (intro w hSw; (try dsimp only at hSw); go_simp); try with_reducible rfl
          try simp only [Act.put, List.setIfInBounds_toArray, List.set_cons_zero, List.set_cons_succ]
          refine wpAnyH_take (i := 6) (oi := { dst := some 39, op := Op.move (Operand.tmp 6), type := 3, pos := "rec.go:87", after := #[], guard := none }) (v := ?_) rfl (by kernel_rfl) (by kernel_rfl) (by kernel_rfl) (fun _ _ _ h => h) (Or.inl ⟨by kernel_rfl, ?_⟩) hHeld ?_
          rotate_left
          · (intro w hSw; (try dsimp only at hSw); go_simp); try with_reducible rfl
          try simp only [Act.put, List.setIfInBounds_toArray, List.set_cons_zero, List.set_cons_succ]
          refine wpAnyH_take (i := 7) (oi := { dst := some 40, op := Op.move (Operand.tmp 6), type := 3, pos := "rec.go:87", after := #[], guard := none }) (v := ?_) rfl (by kernel_rfl) (by kernel_rfl) (by kernel_rfl) (fun _ _ _ h => h) (Or.inl ⟨by kernel_rfl, ?_⟩) hHeld ?_
          rotate_left
          · (intro w hSw; (try dsimp only at hSw); go_simp); try with_reducible rfl
          try simp only [Act.put, List.setIfInBounds_toArray, List.set_cons_zero, List.set_cons_succ]
          refine wpAnyH_take (i := 8) (oi := { dst := some 41, op := Op.binOp BinOp.add 3 (Operand.tmp 40) (Operand.const (Value.int IntKind.i64 4)) 3, type := 3, pos := "rec.go:87", after := #[{ on := 7, ground := Ground.data }], guard := none }) (v := ?_) rfl (by kernel_rfl) (by kernel_rfl) (by kernel_rfl) (fun _ _ _ h => h) (Or.inl ⟨by kernel_rfl, ?_⟩) hHeld ?_
          rotate_left
          · (intro w hSw; (try dsimp only at hSw); go_simp); try with_reducible rfl
          try simp only [Act.put, List.setIfInBounds_toArray, List.set_cons_zero, List.set_cons_succ]
          refine wpAnyH_take (i := 9) (oi := { dst := some 42, op := Op.slice 9 (Operand.tmp 38) (some (Operand.tmp 39)) (some (Operand.tmp 41)) none, type := 9, pos := "rec.go:87", after := #[{ on := 5, ground := Ground.data }, { on := 6, ground := Ground.data }, { on := 8, ground := Ground.data }], guard := none }) (v := ?_) rfl (by kernel_rfl) (by kernel_rfl) (by kernel_rfl) (fun _ _ _ h => h) (Or.inl ⟨by kernel_rfl, ?_⟩) hHeld ?_
          rotate_left
          · (intro w hSw; (try dsimp only at hSw); go_simp); try with_reducible rfl
          try simp only [Act.put, List.setIfInBounds_toArray, List.set_cons_zero, List.set_cons_succ]
          refine wpAnyH_ready (rs := [4]) (by kernel_rfl) (by simp) (AllReadyH.cons (o := { dst := some 37, op := Op.call { callee := Callee.value (Operand.func 18), args := #[Operand.tmp 33, Operand.tmp 36], argTypes := #[34, 9] }, type := 9, pos := "rec.go:87", after := #[{ on := 0, ground := Ground.data }, { on := 3, ground := Ground.data }], guard := none }) rfl (fun K hK => ?_) AllReadyH.nil)
          have hOld := hide hHeld
          clear hHeld
          go_simp
          (try rw [htn1]); (try rw [hto2])
          refine (HSM.out _ HTv0.out).mono ?_
          rintro e v4 ⟨rfl, hb⟩
          have HNv4 := hide ((hb.block _ (heap_lt HNv0.out)).trans HNv0.out)
          have HWv4 := hide ((hb.block _ (heap_lt HWv0.out)).trans HWv0.out)
          have HBv4 := hide (HBv0.out.trans (hb.mono HBv0.out.size))
          clear hb
          (try go_wp2_with fail)
          refine hK.out _ _ (trivial) (fun hHeld => ?_)
          clear hK K hOld
          try simp only [Act.put, List.setIfInBounds_toArray, List.set_cons_zero, List.set_cons_succ]
          refine wpAnyH_take (i := 10) (oi := { dst := some 43, op := Op.binOp BinOp.neq 9 (Operand.tmp 37) (Operand.tmp 42) 9, type := 4, pos := "rec.go:87", after := #[{ on := 4, ground := Ground.data }, { on := 9, ground := Ground.data }], guard := none }) (v := ?_) rfl (by kernel_rfl) (by kernel_rfl) (by kernel_rfl) (fun _ _ _ h => h) (Or.inl ⟨by kernel_rfl, ?_⟩) hHeld ?_
          rotate_left
          · (intro w hSw; (try dsimp only at hSw); go_simp); try with_reducible rfl
          try simp only [Act.put, List.setIfInBounds_toArray, List.set_cons_zero, List.set_cons_succ]
          refine wpAnyH_done (by kernel_rfl) ?_ _
          clear HN3 HW3 HB3 HNv0 HWv0 HBv0 HTv0 hHeld
          obtain ⟨c0, c1, f0, f1⟩ := rec_facts HNv4.out
          go_wp2_with fail
          exact bodyPost_ret (HRES.out _ _ w.heap.size rc0 _ rfl rfl (rec_put HNv4.out)) rfl ⟨by rw [HE.out, HZZ.out]; rfl, below_put HBv4.out (Nat.le_refl _) _ _⟩
    · have hn' : (s.length : Int) < 3 + (n : Int) + 4 := by omega
      have hE : errR s = 4 := by unfold errR; rw [if_neg fun h => by have h1 := h.2.2.2; rw [HLN.out] at h1; exact hn h1]
      have hZ : firstZ s = rc0 := by unfold firstZ; rw [hE]; rfl
      rw [hE, hZ]
      have HRES := hide (res_rec (fn := Try.f22) Try.results22)
      go_enter Try.func22, Try.ntmps22
      go_wp2_with fail
      refine (HGET.out _).mono ?_
      rintro e w1 ⟨rfl, hb1⟩
      have HN1 := hide ((hb1.block _ (heap_lt HN.out)).trans HN.out)
      have HB1 := hide (HB.out.trans (hb1.mono HB.out.size))
      clear hb1 HN HB
      obtain ⟨c0, c1, f0, f1⟩ := rec_facts HN1.out
      go_wp2_with fail
      exact bodyPost_ret (HRES.out _ _ w.heap.size rc0 _ rfl rfl (rec_put HN1.out)) rfl ⟨rfl, below_put HB1.out (Nat.le_refl _) _ _⟩
end Go.Proofs.Ytdjaldkjpmcbdaa
