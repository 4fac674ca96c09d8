/-
  Layer 6: TagBack.
-/
import Derived.Test.YtoigejgpagoghaaTag5
import Derived.Test.YtoigejgpagoghaaKitT
import Derived.Test.YtoigejgpagoghaaKitS
namespace Go.Proofs.Ytoigejgpagoghaa
set_option linter.unusedSimpArgs false
set_option linter.unusedVariables false
open Go.RowKit Go.WideShapes Go.ChangeShapes Go.ChangeAt

theorem fieldsTag : fdesc (Try.prog.fieldsOf 37).toList = [("Kind", 35, 0), ("Logical", 3, 1), ("Seq", 22, 2), ("Pos", 3, 3), ("Len", 3, 4)] := by kernel_rfl
theorem eq_tag (k l s p n k' l' s' p' n' : Int) (w : World) : (Op.equalIn 10000 37 (.agg #[.int .u8 k, .int .i64 l, .int .u64 s, .int .i64 p, .int .i64 n]) (.agg #[.int .u8 k', .int .i64 l', .int .u64 s', .int .i64 p', .int .i64 n'])).run Try.prog w =
    .ok (k == k' && (l == l' && (s == s' && (p == p' && (n == n' && true))))) w := by
  rw [run_equalIn_agg w 9999 37 _ _ (by kernel_rfl) (by kernel_rfl)]
  exact eqF_cons w _ _ _ fieldsTag (by decide) (by kernel_rfl) (by kernel_rfl) (run_equalIn_int w 9998 35 .u8 .u8 _ _ Try.underlying35) fun l h =>
    eqF_cons w _ _ _ h (by decide) (by kernel_rfl) (by kernel_rfl) (run_equalIn_int w 9998 3 .i64 .i64 _ _ Try.underlying3) fun l h =>
    eqF_cons w _ _ _ h (by decide) (by kernel_rfl) (by kernel_rfl) (run_equalIn_int w 9998 22 .u64 .u64 _ _ Try.underlying22) fun l h =>
    eqF_cons w _ _ _ h (by decide) (by kernel_rfl) (by kernel_rfl) (run_equalIn_int w 9998 3 .i64 .i64 _ _ Try.underlying3) fun l h =>
    eqF_cons w _ _ _ h (by decide) (by kernel_rfl) (by kernel_rfl) (run_equalIn_int w 9998 3 .i64 .i64 _ _ Try.underlying3) fun l h => eqF_nil w _ _ _ h
theorem eql_tag (k l s p n k' l' s' p' n' : Int) (w : World) : (binOp .eql 37 (.agg #[.int .u8 k, .int .i64 l, .int .u64 s, .int .i64 p, .int .i64 n]) (.agg #[.int .u8 k', .int .i64 l', .int .u64 s', .int .i64 p', .int .i64 n'])).run Try.prog w = .ok (.bool (k == k' && (l == l' && (s == s' && (p == p' && n == n'))))) w := by
  rw [run_eql_struct, eq_tag]
  simp
theorem neq_tag (k l s p n k' l' s' p' n' : Int) (w : World) : (binOp .neq 37 (.agg #[.int .u8 k, .int .i64 l, .int .u64 s, .int .i64 p, .int .i64 n]) (.agg #[.int .u8 k', .int .i64 l', .int .u64 s', .int .i64 p', .int .i64 n'])).run Try.prog w = .ok (.bool (!(k == k' && (l == l' && (s == s' && (p == p' && n == n')))))) w := by
  rw [run_neq_struct, eq_tag]
  simp
theorem guard_tag (op : BinOp) (x y : Operand) (a b : Array Value) (w : World) : (eqGuard op 37 x y (.agg a) (.agg b)).run Try.prog w = .ok () w := run_eqGuard_agg w op 37 x y a b (by kernel_rfl)
/-- a tag as it comes in -/
def TagIn (v : Value) : Prop := ∃ k l s p n : Int, v = .agg #[.int .u8 k, .int .i64 l, .int .u64 s, .int .i64 p, .int .i64 n] ∧ (0 ≤ k ∧ k ≤ 255) ∧ (0 ≤ s ∧ s ≤ 18446744073709551615)
set_option maxRecDepth 100000 in
theorem open_tag {H : Type} {enc : TypeId × Value → H} {w : World} {base : Nat} {sp : Nat → Bool} {held : Bool} {r : Reach} {b0 : Nat} {v : Value} {d : DataW H} {ps : List MemPlace}
    (hv : Value.okWide Try.prog w r b0 24 v) (h : DataW.Trod enc Try.prog w base sp held 24 v d ps) : TagIn v := by
  obtain ⟨x, rfl, hl, hx⟩ := open_cells_struct [.int .u8, .int .i64, .int .u64, .int .i64, .int .i64] Try.underlying24 (by kernel_rfl) (by kernel_rfl) rfl (fun j hj => by
    have : j = 0 ∨ j = 1 ∨ j = 2 ∨ j = 3 ∨ j = 4 := by simp at hj; omega
    rcases this with rfl | rfl | rfl | rfl | rfl <;> rfl) hv h
  have hl5 : x.length = 5 := hl
  match x, hl5, hx with
  | [c0, c1, c2, c3, c4], _, hx =>
    obtain ⟨k, rfl, hk⟩ := hx 0 _ _ rfl rfl
    obtain ⟨l, rfl, -⟩ := hx 1 _ _ rfl rfl
    obtain ⟨s, rfl, hs⟩ := hx 2 _ _ rfl rfl
    obtain ⟨p, rfl, -⟩ := hx 3 _ _ rfl rfl
    obtain ⟨n, rfl, -⟩ := hx 4 _ _ rfl rfl
    exact ⟨k, l, s, p, n, rfl, wf_u8 hk, wf_u64 hs⟩
theorem cut_list (s : ByteArray) (m : Int) (hm : 0 ≤ m) : ∃ D : List UInt8, s.extract 0 (min (s.size : Int) m).toNat = bs D ∧ (D.length : Int) ≤ m := by
  refine ⟨s.data.toList.take (min (s.size : Int) m).toNat, ?_, ?_⟩
  · rw [← bs_to, bs_of]
  · rw [List.length_take]; omega
structure TB (w0 W : World) (A : Nat) (T : Array Value) (a0 a1 : Int) (pb : Nat) : Prop where
  tag : W.heap[A]? = some (.cells T 24 (0, 0))
  at_ : W.heap[A + 1]? = some (.cells #[.int .u16 a0, .int .u16 a1] 56 (0, 0))
  tab : TabAt W pb 0
  below : Below w0.heap.size w0 W
theorem TB.kept {w0 W W' : World} {A : Nat} {T : Array Value} {a0 a1 : Int} {pb : Nat} (h : TB w0 W A T a0 a1 pb) (hb : Below W.heap.size W W') : TB w0 W' A T a0 a1 pb :=
  ⟨(hb.block _ (heap_lt h.tag)).trans h.tag, (hb.block _ (heap_lt h.at_)).trans h.at_, tabAt_kept h.tab hb, below_trans h.below hb⟩
theorem TB.alloc {w0 W : World} {A : Nat} {T : Array Value} {a0 a1 : Int} {pb : Nat} (h : TB w0 W A T a0 a1 pb) (o : Obj) : TB w0 (W.alloc o) A T a0 a1 pb := h.kept ((Below.refl _ _).alloc (Nat.le_refl _) _)
theorem TB.new {w w1 : World} {k l s p n a0 a1 : Int} (hb : Below ((w.alloc (.cells (tagC k l s p n) 24)).alloc (.cells #[.int .u16 a0, .int .u16 a1] 56)).heap.size ((w.alloc (.cells (tagC k l s p n) 24)).alloc (.cells #[.int .u16 a0, .int .u16 a1] 56)) w1) :
    TB w (w1.alloc (.cells (tabC 256) 27)) w.heap.size (tagC k l s p n) a0 a1 w1.heap.size := by
  have hsz : ((w.alloc (.cells (tagC k l s p n) 24)).alloc (.cells #[.int .u16 a0, .int .u16 a1] 56)).heap.size = w.heap.size + 2 := by rw [heap_alloc_sz, heap_alloc_sz]
  have h2 := hb.size
  have h3 := new2 w (.cells (tagC k l s p n) 24) (.cells #[.int .u16 a0, .int .u16 a1] 56)
  have h4 := (heap_old (w.alloc (.cells (tagC k l s p n) 24)) (.cells #[.int .u16 a0, .int .u16 a1] 56) w.heap.size (by rw [heap_alloc_sz]; omega)).trans (heap_new w _)
  have h5 := hb.block w.heap.size (by rw [hsz]; omega)
  have h6 := hb.block (w.heap.size + 1) (by rw [hsz]; omega)
  rw [hsz] at h2
  exact ⟨(heap_old w1 _ _ (by omega)).trans (h5.trans h4), (heap_old w1 _ _ (by omega)).trans (h6.trans h3), tabAt_new w1, (below_trans (below2 _ _ _) hb).alloc (below_trans (below2 _ _ _) hb).size _⟩
theorem TB.set {w0 W : World} {A : Nat} {T : Array Value} {a0 a1 : Int} {pb : Nat} (h : TB w0 W A T a0 a1 pb) (q j : Nat) (v : Value) (h1 : q ≠ A) (h2 : q ≠ A + 1) (h3 : q ≠ pb) (h4 : w0.heap.size ≤ q) : TB w0 (W.setCell ⟨q, j, none⟩ v) A T a0 a1 pb :=
  ⟨by rw [block_setCell_other h1]; exact h.tag, by rw [block_setCell_other h2]; exact h.at_, fun k hk => by have := h.tab k hk; simp only [World.cell?, block_setCell_other h3] at this ⊢; exact this, h.below.setCell h4 _⟩
/-- the two texts that a row is parted into -/
def SRow (rb dl zz : Nat) (L : List UInt8) (W : World) : Prop :=
  (convert 51 9 (.slice (some ⟨rb, 0, none⟩) dl (dl + 32 + zz))).run Try.prog W = .ok (.string (bs (L.take dl))) W ∧
  (convert 51 9 (.slice (some ⟨rb, dl, none⟩) 32 (dl + 32 + zz - dl))).run Try.prog W = .ok (.string (bs (L.drop dl))) W
theorem SRow.of {rb dl zz : Nat} {L : List UInt8} {W : World} {fr : Nat × Nat} (hl : L.length = dl + 32) (h : W.heap[rb]? = some (.cells (rowC L zz) 5 fr)) : SRow rb dl zz L W := by
  refine ⟨conv_bytes W rb 0 dl _ _ (by rw [List.length_take]; omega) (fun i hi => ?_), conv_bytes W rb dl _ _ _ (by rw [List.length_drop]; omega) (fun i hi => ?_)⟩
  · rw [Nat.zero_add, cell_of_block h, rowC_at L zz i (by omega)]
    simp [List.getD, List.getElem?_take, hi]
  · rw [cell_of_block h, rowC_at L zz (dl + i) (by omega)]
    simp [List.getD, List.getElem?_drop]
theorem parse_bad (b o : Nat) (d l : List UInt8) (hd : d.length ≤ 9223372036854775807) (hm : l.length ≤ 9223372036854775807) (h : parseE d l ≠ 0) (w : World) (ht : TabAt w b o) :
    Calls Try.prog 14 #[.pointer (some ⟨b, o, none⟩), .string (bs d), .string (bs l)] w fun e w' => e = .returned (.tuple #[.agg #[.int .u8 0, .int .i64 0, .int .u64 0, .int .i64 0, .int .i64 0], .int .i64 (parseE d l)]) ∧ Below w.heap.size w w' := by
  have h1 := parse_any b o d l hd hm w ht
  rw [parseV_no d l h] at h1
  exact h1
theorem five_other {W : World} {A B : Nat} (h : A ≠ B) (x0 x1 x2 x3 x4 : Value) : (((((W.setCell ⟨A, 0, none⟩ x0).setCell ⟨A, 1, none⟩ x1).setCell ⟨A, 2, none⟩ x2).setCell ⟨A, 3, none⟩ x3).setCell ⟨A, 4, none⟩ x4).heap[B]? = W.heap[B]? := by
  rw [block_setCell_other h, block_setCell_other h, block_setCell_other h, block_setCell_other h, block_setCell_other h]
theorem TB.heapNew {w0 W : World} {A : Nat} {T : Array Value} {a0 a1 : Int} {pb : Nat} (h : TB w0 W A T a0 a1 pb) (o : Obj) : (W.alloc o).heap[W.heap.size]? = some o := heap_new W o
theorem TB.drew {w0 W : World} {A : Nat} {T : Array Value} {a0 a1 : Int} {pb : Nat} (h : TB w0 W A T a0 a1 pb) : TB w0 W.drew A T a0 a1 pb := ⟨h.tag, h.at_, h.tab, h.below.drew⟩
set_option maxRecDepth 100000 in
set_option maxHeartbeats 1000000 in
theorem tagBack_walk (k l s p n : Int) (k0 : 0 ≤ k) (k1 : k ≤ 255) (s0 : 0 ≤ s) (s1 : s ≤ 18446744073709551615) (data : ByteArray) (hd : data.size ≤ 9223372036854775807) (a0 a1 : Int) (a00 : 0 ≤ a0) (a01 : a0 ≤ 65535) (a10 : 0 ≤ a1) (a11 : a1 ≤ 65535) (w : World) :
    Calls Try.prog 5 #[.agg #[.int .u8 k, .int .i64 l, .int .u64 s, .int .i64 p, .int .i64 n], .string data, .agg #[.int .u16 a0, .int .u16 a1]] w fun e w' => e = .returned (.bool true) ∧ Below w.heap.size w w' := by
  have z := (zero_of_info tab_zero).1
  have hsz := tabC_size 256
  have hst := tab_store
  have hm1 : (min (data.size : Int) 300) ≤ data.size := by omega
  have hm3 : 0 ≤ (min (data.size : Int) 300) := by omega
  obtain ⟨D0, hD, hDl⟩ := cut_list data 300 (by omega)
  have HD := hide hD
  have hd0s := bs_size D0
  have hok := tame_ok k l p n k0
  have HTA := hide (fun W => tame_any k l s p n k0 k1 W)
  generalize tkZ k = tk at *
  generalize tlZ l = tl at *
  generalize tpZ p n = tp at *
  generalize tnZ n = tn at *
  have HOF := hide (fun W => of_tag tk tl s tp tn W)
  clear hD
  go_enter Try.func5, Try.ntmps5
  go_wp2_with fail
  rw [HD.out, show (ByteArray.mk #[100] ++ bs D0) = bs (100 :: D0) by rw [show (ByteArray.mk #[100]) = bs [100] from rfl, bs_append]; rfl]
  have hDl2 : (100 :: D0).length ≤ 301 ∧ 1 ≤ (100 :: D0).length := by simp; omega
  clear HD hm1 hm3 hd hd0s hDl
  generalize (100 :: D0) = D at *
  refine (make_any _).mono ?_
  rintro e w1 ⟨rfl, hb⟩
  have HT := hide (TB.new (k := k) (l := l) (s := s) (p := p) (n := n) (a0 := a0) (a1 := a1) hb)
  clear hb
  obtain ⟨⟨t0, t1, t2, t3, t4⟩, -, tz⟩ := tagC_cells HT.out.tag
  go_wp2_with fail
  generalize w1.heap.size = pb at *
  refine (HTA.out _).mono ?_
  rintro e w2 ⟨rfl, hb⟩
  have HT2 := hide (HT.out.kept hb)
  clear hb HT HTA t0 t1 t2 t3 t4 tz
  go_wp2_with fail
  refine (HOF.out _).mono ?_
  rintro e w3 ⟨rfl, hb⟩
  have HT3 := hide ((HT2.out.kept hb).alloc (.cells (tagC tk tl s tp tn) 37))
  have HG := hide (heap_new w3 (.cells (tagC tk tl s tp tn) 37))
  clear hb HT2 HOF
  have HF := hide (fun W h => frame_ok pb 0 tk tl s tp tn hok s0 s1 D (by omega) W h)
  have HP := hide (fun W h => parseV_frame tk tl s tp tn hok s0 s1 pb 0 D (by omega) W h)
  have hfl := frameL_length tk tl s tp tn D
  have hfs := bs_size (frameL tk tl s tp tn D)
  rw [hfl] at hfs
  have HPZ := hide (parse_frame tk tl s tp tn hok s0 s1 D).1
  generalize frameL tk tl s tp tn D = fr at *
  go_wp2_with fail
  refine (HF.out _ HT3.out.tab).mono ?_
  rintro e w4 ⟨rfl, hb⟩
  have HT4 := hide (HT3.out.kept hb)
  have HG4 := hide ((hb.block _ (heap_lt HG.out)).trans HG.out)
  clear hb HT3 HG HF
  go_wp2_with fail
  refine (HP.out _ HT4.out.tab).mono ?_
  rintro e w5 ⟨rfl, hb⟩
  have HT5 := hide ((HT4.out.kept hb).alloc (.cells (tagC tk tl s tp tn) 37))
  have HG5 := hide ((heap_old w5 (.cells (tagC tk tl s tp tn) 37) _ (Nat.lt_of_lt_of_le (heap_lt HG4.out) hb.size)).trans ((hb.block _ (heap_lt HG4.out)).trans HG4.out))
  have HU5 := hide (heap_new w5 (.cells (tagC tk tl s tp tn) 37))
  clear hb HT4 HG4 HP
  generalize w3.heap.size = G at *
  go_wp2_with fail
  refine (wakes6 _).mono ?_
  rintro e w6 ⟨rfl, hb⟩
  have HT6 := hide (HT5.out.kept hb)
  have HG6 := hide ((hb.block _ (heap_lt HG5.out)).trans HG5.out)
  have HU6 := hide ((hb.block _ (heap_lt HU5.out)).trans HU5.out)
  clear hb HT5 HG5 HU5
  generalize w5.heap.size = U at *
  obtain ⟨⟨g0, g1, g2, g3, g4⟩, -, gl⟩ := tagC_cells HG6.out
  obtain ⟨⟨u0, u1, u2, u3, u4⟩, -, ul⟩ := tagC_cells HU6.out
  have hne : ∀ W, (binOp .neq 37 (.agg #[.int .u8 tk, .int .i64 tl, .int .u64 s, .int .i64 tp, .int .i64 tn]) (.agg #[.int .u8 tk, .int .i64 tl, .int .u64 s, .int .i64 tp, .int .i64 tn])).run Try.prog W = .ok (.bool false) W := fun W => by rw [neq_tag]; simp
  have hgu := guard_tag .neq
  have x0 : w6.cell? ⟨w.heap.size + 1, 0, none⟩ = some (.int .u16 a0) := by rw [cell_of_block HT6.out.at_]; rfl
  have x1 : w6.cell? ⟨w.heap.size + 1, 1, none⟩ = some (.int .u16 a1) := by rw [cell_of_block HT6.out.at_]; rfl
  have xl := heap_lt HT6.out.at_
  by_cases hz : a1 % 256 = 0
  · have hzt : a1.tmod 256 = 0 := by rw [Int.tmod_eq_emod_of_nonneg a10]; exact hz
    go_wp2_with fail
    go_ret
    exact ⟨rfl, HT6.out.below⟩
  · have hzt : (a1 % 256 == 0) = false := by rw [beq_eq_false_iff_ne]; exact hz
    obtain ⟨zz, w7, hcv, hb7, hs7, hrow⟩ := conv_text w6 (bs D ++ bs fr)
    have hDs := bs_size D
    have hsz3 : (bs D ++ bs fr).size = D.length + 32 := by rw [ByteArray.size_append, hDs, hfs]
    rw [hsz3] at hcv hrow
    rw [show (bs D ++ bs fr).data.toList = D ++ fr by rw [bs_append]; rfl] at hrow
    have hlen : (D ++ fr).length = D.length + 32 := by rw [List.length_append, hfl]
    have HT7 := hide (HT6.out.kept hb7)
    have HRW := hide hrow
    have hrb : w6.heap.size < w7.heap.size := by omega
    have ht0 := heap_lt HT6.out.tag
    have hpb := tabAt_lt HT6.out.tab
    clear hb7 hs7 hrow HG6 HU6
    have HTN := hide (parse_torn D fr HPZ.out)
    have hdl1 := hDl2.1
    have hdl2 := hDl2.2
    generalize hL : D ++ fr = L at *
    generalize hdl : D.length = dl at *
    obtain ⟨i, hi⟩ := Int.eq_ofNat_of_zero_le (show 0 ≤ a0 % ((dl : Int) + 32) from Int.emod_nonneg _ (by omega))
    have him : i < dl + 32 := by have := Int.emod_lt_of_pos a0 (show (0 : Int) < (dl : Int) + 32 by omega); omega
    have y0 : w7.cell? ⟨w.heap.size + 1, 0, none⟩ = some (.int .u16 a0) := by rw [cell_of_block HT7.out.at_]; rfl
    have y1 : w7.cell? ⟨w.heap.size + 1, 1, none⟩ = some (.int .u16 a1) := by rw [cell_of_block HT7.out.at_]; rfl
    have yl := heap_lt HT7.out.at_
    have c0 : w7.cell? ⟨w6.heap.size, i, none⟩ = some (.int .u8 ((L.getD i 0).toNat : Int)) := by rw [cell_of_block HRW.out, rowC_at L zz i (by omega)]
    have hfr : w7.frozen? ⟨w6.heap.size, i, none⟩ = false := by simp only [World.frozen?, HRW.out]; simp; omega
    obtain ⟨x', hx', hxne⟩ : ∃ x' : UInt8, bits .xor .u8 ((L.getD i 0).toNat : Int) (a1 % 256) = (x'.toNat : Int) ∧ x' ≠ L.getD i 0 := by
      refine ⟨L.getD i 0 ^^^ UInt8.ofNat (a1 % 256).toNat, ?_, ?_⟩
      · have h1 : (UInt8.ofNat (a1 % 256).toNat).toNat = (a1 % 256).toNat := by simp; omega
        rw [UInt8.toNat_xor, h1, ← u8_xor_nat _ _ ((L.getD i 0).toNat_lt) (by omega), Int.toNat_of_nonneg (by omega)]
      · intro e
        have h2 := congrArg (fun y => L.getD i 0 ^^^ y) e
        simp only [← UInt8.xor_assoc, UInt8.xor_self, UInt8.zero_xor] at h2
        have h3 := congrArg UInt8.toNat h2
        have h1 : (UInt8.ofNat (a1 % 256).toNat).toNat = (a1 % 256).toNat := by simp; omega
        rw [h1] at h3
        have : (0 : UInt8).toNat = 0 := rfl
        omega
    have HR8 := hide (show ((w7.drew).setCell ⟨w6.heap.size, i, none⟩ (.int .u8 (x'.toNat : Int))).heap[w6.heap.size]? = some (.cells (rowC (L.set i x') zz) 5 (dl + 32 + zz, dl + 32 + zz + 1)) from by
      rw [← rowC_set L zz i (by omega) x']
      exact block_setCell (show w7.drew.heap[w6.heap.size]? = _ from HRW.out) _ _)
    have HE := hide (HTN.out i (by omega) x' hxne)
    have HLS := hide (show (L.set i x').length = dl + 32 by rw [List.length_set]; omega)
    clear HTN hxne HRW hL
    generalize (L.getD i 0).toNat = xv at *
    generalize L.set i x' = L' at *
    generalize w6.heap.size = rb at *
    go_upto_region 11 with (fail)
    go_region
    have HT8 := hide (show TB w ((w7.setCell ⟨rb, i, none⟩ (.int .u8 (x'.toNat : Int))).drew) w.heap.size (tagC k l s p n) a0 a1 pb from (HT7.out.set rb i _ (by omega) (by omega) (by omega) (by omega)).drew)
    have HR8b := hide (show ((w7.setCell ⟨rb, i, none⟩ (.int .u8 (x'.toNat : Int))).drew).heap[rb]? = some (.cells (rowC L' zz) 5 (dl + 32 + zz, dl + 32 + zz + 1)) from HR8.out)
    clear HT7 HR8
    generalize (w7.setCell ⟨rb, i, none⟩ (.int .u8 (x'.toNat : Int))).drew = W8 at *
    have HT8 := hide (show TB w W8.drew w.heap.size (tagC k l s p n) a0 a1 pb from HT8.out.drew)
    have HR8b := hide (show W8.drew.heap[rb]? = some (.cells (rowC L' zz) 5 (dl + 32 + zz, dl + 32 + zz + 1)) from HR8b.out)
    have HS8 := hide (SRow.of HLS.out HR8b.out)
    have HPB := hide (fun W h => parse_bad pb 0 (L'.take dl) (L'.drop dl) (by rw [List.length_take]; omega) (by rw [List.length_drop, HLS.out]; omega) HE.out W h)
    have hxx : parseE (L'.take dl) (L'.drop dl) = 4 ∨ parseE (L'.take dl) (L'.drop dl) = 5 := by
      rcases parseE_is (L'.take dl) (L'.drop dl) with h | h
      · exact absurd h HE.out
      · exact h
    have hb1 : (0 : Int) ≤ dl := by omega
    have hcapne : ¬ dl + 32 + zz = dl := by omega
    have hb2 : (dl : Int) ≤ dl + 32 := by omega
    have hb3 : (dl : Int) ≤ dl + 32 + zz := by omega
    generalize parseE (L'.take dl) (L'.drop dl) = xe at *
    clear HE c0 hfr y0 y1 yl hx' g0 g1 g2 g3 g4 u0 u1 u2 u3 u4 x0 x1 HPZ hcv HT6
    go_upto_region 12 with (fail)
    refine wp_region_held_drew (S := (SRow rb dl zz L')) (by kernel_rfl) (HS8.out) (fun hHeld => ?_)
    refine wpAnyH_take (i := 0) (oi := { dst := some 81, op := Op.move (Operand.tmp 13), type := 51, pos := "law.go:99", after := #[], guard := none }) (v := ?_) rfl (by kernel_rfl) (by kernel_rfl) (by kernel_rfl) (fun _ _ _ h => h) (Or.inl ⟨by kernel_rfl, ?_⟩) hHeld ?_
    rotate_left
    · (intro w hSw; (try dsimp only at hSw); (try unfold SRow at hSw); go_simp); try with_reducible rfl
    try simp only [Act.put, List.setIfInBounds_toArray, List.set_cons_zero, List.set_cons_succ]
    refine wpAnyH_take (i := 1) (oi := { dst := some 82, op := Op.move (Operand.tmp 1), type := 9, pos := "law.go:99", after := #[], guard := none }) (v := ?_) rfl (by kernel_rfl) (by kernel_rfl) (by kernel_rfl) (fun _ _ _ h => h) (Or.inl ⟨by kernel_rfl, ?_⟩) hHeld ?_
    rotate_left
    · (intro w hSw; (try dsimp only at hSw); (try unfold SRow at hSw); go_simp); try with_reducible rfl
    try simp only [Act.put, List.setIfInBounds_toArray, List.set_cons_zero, List.set_cons_succ]
    refine wpAnyH_take (i := 2) (oi := { dst := some 83, op := Op.call { callee := Callee.builtin Builtin.len, args := #[Operand.tmp 82], argTypes := #[9] }, type := 3, pos := "law.go:99", after := #[{ on := 1, ground := Ground.data }], guard := none }) (v := ?_) rfl (by kernel_rfl) (by kernel_rfl) (by kernel_rfl) (fun _ _ _ h => h) (Or.inl ⟨by kernel_rfl, ?_⟩) hHeld ?_
    rotate_left
    · (intro w hSw; (try dsimp only at hSw); (try unfold SRow at hSw); go_simp); try with_reducible rfl
    try simp only [Act.put, List.setIfInBounds_toArray, List.set_cons_zero, List.set_cons_succ]
    refine wpAnyH_take (i := 3) (oi := { dst := some 84, op := Op.slice 51 (Operand.tmp 81) none (some (Operand.tmp 83)) none, type := 51, pos := "law.go:99", after := #[{ on := 0, ground := Ground.data }, { on := 2, ground := Ground.data }], guard := none }) (v := ?_) rfl (by kernel_rfl) (by kernel_rfl) (by kernel_rfl) (fun _ _ _ h => h) (Or.inl ⟨by kernel_rfl, ?_⟩) hHeld ?_
    rotate_left
    · (intro w hSw; (try dsimp only at hSw); (try unfold SRow at hSw); go_simp); try with_reducible rfl
    try simp only [Act.put, List.setIfInBounds_toArray, List.set_cons_zero, List.set_cons_succ]
    refine wpAnyH_take (i := 4) (oi := { dst := some 85, op := Op.convert 51 9 (Operand.tmp 84), type := 9, pos := "law.go:99", after := #[{ on := 3, ground := Ground.data }], guard := none }) (v := ?_) rfl (by kernel_rfl) (by kernel_rfl) (by kernel_rfl) (fun _ _ _ h => h) (Or.inl ⟨by kernel_rfl, ?_⟩) hHeld ?_
    rotate_left
    · (intro w hSw; (try dsimp only at hSw); (try unfold SRow at hSw); go_simp); try with_reducible rfl
    try simp only [Act.put, List.setIfInBounds_toArray, List.set_cons_zero, List.set_cons_succ]
    refine wpAnyH_take (i := 5) (oi := { dst := some 86, op := Op.move (Operand.tmp 13), type := 51, pos := "law.go:99", after := #[], guard := none }) (v := ?_) rfl (by kernel_rfl) (by kernel_rfl) (by kernel_rfl) (fun _ _ _ h => h) (Or.inl ⟨by kernel_rfl, ?_⟩) hHeld ?_
    rotate_left
    · (intro w hSw; (try dsimp only at hSw); (try unfold SRow at hSw); go_simp); try with_reducible rfl
    try simp only [Act.put, List.setIfInBounds_toArray, List.set_cons_zero, List.set_cons_succ]
    refine wpAnyH_take (i := 6) (oi := { dst := some 87, op := Op.move (Operand.tmp 1), type := 9, pos := "law.go:99", after := #[], guard := none }) (v := ?_) rfl (by kernel_rfl) (by kernel_rfl) (by kernel_rfl) (fun _ _ _ h => h) (Or.inl ⟨by kernel_rfl, ?_⟩) hHeld ?_
    rotate_left
    · (intro w hSw; (try dsimp only at hSw); (try unfold SRow at hSw); go_simp); try with_reducible rfl
    try simp only [Act.put, List.setIfInBounds_toArray, List.set_cons_zero, List.set_cons_succ]
    refine wpAnyH_take (i := 7) (oi := { dst := some 88, op := Op.call { callee := Callee.builtin Builtin.len, args := #[Operand.tmp 87], argTypes := #[9] }, type := 3, pos := "law.go:99", after := #[{ on := 6, ground := Ground.data }], guard := none }) (v := ?_) rfl (by kernel_rfl) (by kernel_rfl) (by kernel_rfl) (fun _ _ _ h => h) (Or.inl ⟨by kernel_rfl, ?_⟩) hHeld ?_
    rotate_left
    · (intro w hSw; (try dsimp only at hSw); (try unfold SRow at hSw); go_simp); try with_reducible rfl
    try simp only [Act.put, List.setIfInBounds_toArray, List.set_cons_zero, List.set_cons_succ]
    refine wpAnyH_take (i := 8) (oi := { dst := some 89, op := Op.slice 51 (Operand.tmp 86) (some (Operand.tmp 88)) none none, type := 51, pos := "law.go:99", after := #[{ on := 5, ground := Ground.data }, { on := 7, ground := Ground.data }], guard := none }) (v := ?_) rfl (by kernel_rfl) (by kernel_rfl) (by kernel_rfl) (fun _ _ _ h => h) (Or.inl ⟨by kernel_rfl, ?_⟩) hHeld ?_
    rotate_left
    · (intro w hSw; (try dsimp only at hSw); (try unfold SRow at hSw); go_simp); try with_reducible rfl
    try simp only [Act.put, List.setIfInBounds_toArray, List.set_cons_zero, List.set_cons_succ]
    refine wpAnyH_take (i := 9) (oi := { dst := some 90, op := Op.convert 51 9 (Operand.tmp 89), type := 9, pos := "law.go:99", after := #[{ on := 8, ground := Ground.data }], guard := none }) (v := ?_) rfl (by kernel_rfl) (by kernel_rfl) (by kernel_rfl) (fun _ _ _ h => h) (Or.inl ⟨by kernel_rfl, ?_⟩) hHeld ?_
    rotate_left
    · (intro w hSw; (try dsimp only at hSw); (try unfold SRow at hSw); go_simp); try with_reducible rfl
    try simp only [Act.put, List.setIfInBounds_toArray, List.set_cons_zero, List.set_cons_succ]
    refine wpAnyH_ready (rs := [10, 14]) (by kernel_rfl) (by simp) (AllReadyH.cons (o := { dst := some 91, op := Op.call { callee := Callee.value (Operand.func 14), args := #[Operand.tmp 7, Operand.tmp 85, Operand.tmp 90], argTypes := #[34, 9, 9] }, type := 45, pos := "law.go:99", after := #[{ on := 4, ground := Ground.data }, { on := 9, ground := Ground.data }], guard := none }) rfl (fun K hK => ?_) (AllReadyH.cons (o := { dst := some 14, op := Op.alloc 37, type := 0, pos := "law.go:99", after := #[], guard := none }) rfl (fun K hK => ?_) AllReadyH.nil))
    · have hOld := hide hHeld
      clear hHeld
      go_simp
      refine (HPB.out _ HT8.out.tab).mono ?_
      rintro e v1 ⟨rfl, hb⟩
      have HTx1 := hide (HT8.out.kept hb)
      have HRx1 := hide ((hb.block _ (heap_lt HR8b.out)).trans HR8b.out)
      clear hb
      (try go_wp2_with fail)
      refine hK.out _ _ (SRow.of HLS.out HRx1.out) (fun hHeld => ?_)
      clear hK K hOld
      try simp only [Act.put, List.setIfInBounds_toArray, List.set_cons_zero, List.set_cons_succ]
      refine wpAnyH_take (i := 11) (oi := { dst := some 80, op := Op.move (Operand.tmp 91), type := 45, pos := "law.go:99", after := #[{ on := 10, ground := Ground.data }], guard := none }) (v := ?_) rfl (by kernel_rfl) (by kernel_rfl) (by kernel_rfl) (fun _ _ _ h => h) (Or.inl ⟨by kernel_rfl, ?_⟩) hHeld ?_
      rotate_left
      · (intro w hSw; (try dsimp only at hSw); (try unfold SRow at hSw); go_simp); try with_reducible rfl
      try simp only [Act.put, List.setIfInBounds_toArray, List.set_cons_zero, List.set_cons_succ]
      refine wpAnyH_take (i := 12) (oi := { dst := some 92, op := Op.extract (Operand.tmp 80) 0, type := 37, pos := "law.go:99", after := #[{ on := 11, ground := Ground.data }], guard := none }) (v := ?_) rfl (by kernel_rfl) (by kernel_rfl) (by kernel_rfl) (fun _ _ _ h => h) (Or.inl ⟨by kernel_rfl, ?_⟩) hHeld ?_
      rotate_left
      · (intro w hSw; (try dsimp only at hSw); (try unfold SRow at hSw); go_simp); try with_reducible rfl
      try simp only [Act.put, List.setIfInBounds_toArray, List.set_cons_zero, List.set_cons_succ]
      refine wpAnyH_take (i := 13) (oi := { dst := some 93, op := Op.extract (Operand.tmp 80) 1, type := 31, pos := "law.go:99", after := #[{ on := 11, ground := Ground.data }, { on := 15, ground := Ground.gcOnly Departure.lateStores }], guard := none }) (v := ?_) rfl (by kernel_rfl) (by kernel_rfl) (by kernel_rfl) (fun _ _ _ h => h) (Or.inl ⟨by kernel_rfl, ?_⟩) hHeld ?_
      rotate_left
      · (intro w hSw; (try dsimp only at hSw); (try unfold SRow at hSw); go_simp); try with_reducible rfl
      try simp only [Act.put, List.setIfInBounds_toArray, List.set_cons_zero, List.set_cons_succ]
      refine wpAnyH_ready (rs := [14]) (by kernel_rfl) (by simp) (AllReadyH.cons (o := { dst := some 14, op := Op.alloc 37, type := 0, pos := "law.go:99", after := #[], guard := none }) rfl (fun K hK => ?_) AllReadyH.nil)
      have hOld := hide hHeld
      clear hHeld
      go_simp
      have HTx2 := hide (HTx1.out.alloc (Obj.cells (tagC 0 0 0 0 0) 37))
      have HRx2 := hide ((heap_old _ (Obj.cells (tagC 0 0 0 0 0) 37) _ (heap_lt HRx1.out)).trans HRx1.out)
      have HZx2 := hide (show (World.alloc v1 (Obj.cells (tagC 0 0 0 0 0) 37)).heap[v1.heap.size]? = some (Obj.cells (tagC 0 0 0 0 0) 37) from HTx1.out.heapNew (Obj.cells (tagC 0 0 0 0 0) 37))
      have hzr0 := heap_lt HRx1.out
      (try go_wp2_with fail)
      refine hK.out _ _ (SRow.of HLS.out HRx2.out) (fun hHeld => ?_)
      clear hK K hOld
      try simp only [Act.put, List.setIfInBounds_toArray, List.set_cons_zero, List.set_cons_succ]
      refine wpAnyH_ready (rs := [15]) (by kernel_rfl) (by simp) (AllReadyH.cons (o := { dst := none, op := Op.store 37 (Operand.tmp 14) (Operand.tmp 92), type := 0, pos := "law.go:99", after := #[{ on := 14, ground := Ground.data }, { on := 12, ground := Ground.data }, { on := 10, ground := Ground.chain }, { on := 0, ground := Ground.phase }, { on := 1, ground := Ground.phase }, { on := 2, ground := Ground.phase }, { on := 3, ground := Ground.phase }, { on := 4, ground := Ground.phase }, { on := 5, ground := Ground.phase }, { on := 6, ground := Ground.phase }, { on := 7, ground := Ground.phase }, { on := 8, ground := Ground.phase }, { on := 9, ground := Ground.phase }, { on := 10, ground := Ground.phase }, { on := 11, ground := Ground.phase }, { on := 12, ground := Ground.phase }, { on := 13, ground := Ground.textOnly Departure.lateStores }, { on := 14, ground := Ground.phase }], guard := none }) rfl (fun K hK => ?_) AllReadyH.nil)
      have hOld := hide hHeld
      clear hHeld
      go_simp
      skip
      (try go_wp2_with fail)
      refine hK.out _ _ (SRow.of HLS.out HRx2.out) (fun hHeld => ?_)
      clear hK K hOld
      try simp only [Act.put, List.setIfInBounds_toArray, List.set_cons_zero, List.set_cons_succ]
      refine wpAnyH_take (i := 16) (oi := { dst := some 15, op := Op.assign (Operand.tmp 93), type := 31, pos := "law.go:99", after := #[{ on := 13, ground := Ground.data }, { on := 15, ground := Ground.chain }, { on := 0, ground := Ground.phase }, { on := 1, ground := Ground.phase }, { on := 2, ground := Ground.phase }, { on := 3, ground := Ground.phase }, { on := 4, ground := Ground.phase }, { on := 5, ground := Ground.phase }, { on := 6, ground := Ground.phase }, { on := 7, ground := Ground.phase }, { on := 8, ground := Ground.phase }, { on := 9, ground := Ground.phase }, { on := 10, ground := Ground.phase }, { on := 11, ground := Ground.phase }, { on := 12, ground := Ground.phase }, { on := 13, ground := Ground.phase }, { on := 14, ground := Ground.phase }, { on := 15, ground := Ground.phase }], guard := none }) (v := ?_) rfl (by kernel_rfl) (by kernel_rfl) (by kernel_rfl) (fun _ _ _ h => h) (Or.inl ⟨by kernel_rfl, ?_⟩) hHeld ?_
      rotate_left
      · (intro w hSw; (try dsimp only at hSw); (try unfold SRow at hSw); go_simp); try with_reducible rfl
      try simp only [Act.put, List.setIfInBounds_toArray, List.set_cons_zero, List.set_cons_succ]
      refine wpAnyH_done (by kernel_rfl) ?_ _
      rcases hxx with rfl | rfl
      all_goals
        go_wp2_with fail
        go_ret
        exact ⟨rfl, HTx2.out.below⟩
    · have hOld := hide hHeld
      clear hHeld
      go_simp
      have HTx1 := hide (HT8.out.alloc (Obj.cells (tagC 0 0 0 0 0) 37))
      have HRx1 := hide ((heap_old _ (Obj.cells (tagC 0 0 0 0 0) 37) _ (heap_lt HR8b.out)).trans HR8b.out)
      have HZx1 := hide (show (World.alloc W8.drew (Obj.cells (tagC 0 0 0 0 0) 37)).heap[W8.heap.size]? = some (Obj.cells (tagC 0 0 0 0 0) 37) from HT8.out.heapNew (Obj.cells (tagC 0 0 0 0 0) 37))
      have hzr0 := heap_lt HR8b.out
      (try go_wp2_with fail)
      refine hK.out _ _ (SRow.of HLS.out HRx1.out) (fun hHeld => ?_)
      clear hK K hOld
      try simp only [Act.put, List.setIfInBounds_toArray, List.set_cons_zero, List.set_cons_succ]
      refine wpAnyH_ready (rs := [10]) (by kernel_rfl) (by simp) (AllReadyH.cons (o := { dst := some 91, op := Op.call { callee := Callee.value (Operand.func 14), args := #[Operand.tmp 7, Operand.tmp 85, Operand.tmp 90], argTypes := #[34, 9, 9] }, type := 45, pos := "law.go:99", after := #[{ on := 4, ground := Ground.data }, { on := 9, ground := Ground.data }], guard := none }) rfl (fun K hK => ?_) AllReadyH.nil)
      have hOld := hide hHeld
      clear hHeld
      go_simp
      refine (HPB.out _ HTx1.out.tab).mono ?_
      rintro e v2 ⟨rfl, hb⟩
      have HTx2 := hide (HTx1.out.kept hb)
      have HRx2 := hide ((hb.block _ (heap_lt HRx1.out)).trans HRx1.out)
      have HZx2 := hide ((hb.block _ (heap_lt HZx1.out)).trans HZx1.out)
      have hzr2 := heap_lt HRx1.out
      clear hb
      (try go_wp2_with fail)
      refine hK.out _ _ (SRow.of HLS.out HRx2.out) (fun hHeld => ?_)
      clear hK K hOld
      try simp only [Act.put, List.setIfInBounds_toArray, List.set_cons_zero, List.set_cons_succ]
      refine wpAnyH_take (i := 11) (oi := { dst := some 80, op := Op.move (Operand.tmp 91), type := 45, pos := "law.go:99", after := #[{ on := 10, ground := Ground.data }], guard := none }) (v := ?_) rfl (by kernel_rfl) (by kernel_rfl) (by kernel_rfl) (fun _ _ _ h => h) (Or.inl ⟨by kernel_rfl, ?_⟩) hHeld ?_
      rotate_left
      · (intro w hSw; (try dsimp only at hSw); (try unfold SRow at hSw); go_simp); try with_reducible rfl
      try simp only [Act.put, List.setIfInBounds_toArray, List.set_cons_zero, List.set_cons_succ]
      refine wpAnyH_take (i := 12) (oi := { dst := some 92, op := Op.extract (Operand.tmp 80) 0, type := 37, pos := "law.go:99", after := #[{ on := 11, ground := Ground.data }], guard := none }) (v := ?_) rfl (by kernel_rfl) (by kernel_rfl) (by kernel_rfl) (fun _ _ _ h => h) (Or.inl ⟨by kernel_rfl, ?_⟩) hHeld ?_
      rotate_left
      · (intro w hSw; (try dsimp only at hSw); (try unfold SRow at hSw); go_simp); try with_reducible rfl
      try simp only [Act.put, List.setIfInBounds_toArray, List.set_cons_zero, List.set_cons_succ]
      refine wpAnyH_take (i := 13) (oi := { dst := some 93, op := Op.extract (Operand.tmp 80) 1, type := 31, pos := "law.go:99", after := #[{ on := 11, ground := Ground.data }, { on := 15, ground := Ground.gcOnly Departure.lateStores }], guard := none }) (v := ?_) rfl (by kernel_rfl) (by kernel_rfl) (by kernel_rfl) (fun _ _ _ h => h) (Or.inl ⟨by kernel_rfl, ?_⟩) hHeld ?_
      rotate_left
      · (intro w hSw; (try dsimp only at hSw); (try unfold SRow at hSw); go_simp); try with_reducible rfl
      try simp only [Act.put, List.setIfInBounds_toArray, List.set_cons_zero, List.set_cons_succ]
      refine wpAnyH_ready (rs := [15]) (by kernel_rfl) (by simp) (AllReadyH.cons (o := { dst := none, op := Op.store 37 (Operand.tmp 14) (Operand.tmp 92), type := 0, pos := "law.go:99", after := #[{ on := 14, ground := Ground.data }, { on := 12, ground := Ground.data }, { on := 10, ground := Ground.chain }, { on := 0, ground := Ground.phase }, { on := 1, ground := Ground.phase }, { on := 2, ground := Ground.phase }, { on := 3, ground := Ground.phase }, { on := 4, ground := Ground.phase }, { on := 5, ground := Ground.phase }, { on := 6, ground := Ground.phase }, { on := 7, ground := Ground.phase }, { on := 8, ground := Ground.phase }, { on := 9, ground := Ground.phase }, { on := 10, ground := Ground.phase }, { on := 11, ground := Ground.phase }, { on := 12, ground := Ground.phase }, { on := 13, ground := Ground.textOnly Departure.lateStores }, { on := 14, ground := Ground.phase }], guard := none }) rfl (fun K hK => ?_) AllReadyH.nil)
      have hOld := hide hHeld
      clear hHeld
      go_simp
      obtain ⟨⟨q0, q1, q2, q3, q4⟩, qz, ql⟩ := tagC_cells HZx2.out
      go_simp
      (try go_wp2_with fail)
      refine hK.out _ _ (SRow.of HLS.out ((five_other (Nat.ne_of_gt hzr0) _ _ _ _ _).trans HRx2.out)) (fun hHeld => ?_)
      clear hK K hOld
      try simp only [Act.put, List.setIfInBounds_toArray, List.set_cons_zero, List.set_cons_succ]
      refine wpAnyH_take (i := 16) (oi := { dst := some 15, op := Op.assign (Operand.tmp 93), type := 31, pos := "law.go:99", after := #[{ on := 13, ground := Ground.data }, { on := 15, ground := Ground.chain }, { on := 0, ground := Ground.phase }, { on := 1, ground := Ground.phase }, { on := 2, ground := Ground.phase }, { on := 3, ground := Ground.phase }, { on := 4, ground := Ground.phase }, { on := 5, ground := Ground.phase }, { on := 6, ground := Ground.phase }, { on := 7, ground := Ground.phase }, { on := 8, ground := Ground.phase }, { on := 9, ground := Ground.phase }, { on := 10, ground := Ground.phase }, { on := 11, ground := Ground.phase }, { on := 12, ground := Ground.phase }, { on := 13, ground := Ground.phase }, { on := 14, ground := Ground.phase }, { on := 15, ground := Ground.phase }], guard := none }) (v := ?_) rfl (by kernel_rfl) (by kernel_rfl) (by kernel_rfl) (fun _ _ _ h => h) (Or.inl ⟨by kernel_rfl, ?_⟩) hHeld ?_
      rotate_left
      · (intro w hSw; (try dsimp only at hSw); (try unfold SRow at hSw); go_simp); try with_reducible rfl
      try simp only [Act.put, List.setIfInBounds_toArray, List.set_cons_zero, List.set_cons_succ]
      refine wpAnyH_done (by kernel_rfl) ?_ _
      rcases hxx with rfl | rfl
      all_goals
        go_wp2_with fail
        go_ret
        exact ⟨rfl, below5 HTx2.out.below _ (show w.heap.size ≤ W8.heap.size from HT8.out.below.size) _ _ _ _ _⟩
theorem tagBack_all (v : Value) (hv : TagIn v) (data : ByteArray) (hd : data.size ≤ 9223372036854775807) (u : Value) (hu : ∃ xs : List Int, xs.length = 2 ∧ u = .agg (xs.map (Value.int .u16)).toArray ∧ ∀ x ∈ xs, (Lit.int .u16 x).wf = true) (w : World) :
    Calls Try.prog 5 #[v, .string data, u] w fun e w' => e = .returned (.bool true) ∧ Below w.heap.size w w' := by
  obtain ⟨k, l, s, p, n, rfl, ⟨k0, k1⟩, s0, s1⟩ := hv
  obtain ⟨xs, hl, rfl, hx⟩ := hu
  match xs, hl, hx with
  | [a0, a1], _, hx =>
    have h0 := wf_u16 (hx a0 (by simp))
    have h1 := wf_u16 (hx a1 (by simp))
    exact tagBack_walk k l s p n k0 k1 s0 s1 data hd a0 a1 h0.1 h0.2 h1.1 h1.2 w

set_option maxRecDepth 100000 in
theorem tagBack_lifted (os : Os) (started : os.Started) (H : Type) (enc : TypeId × Value → H) :
    ReturnsInHanded {} Try.checked os 5 .any (Rows.tagBackSpec.pre6 enc Try.prog Try.f5 Rows.tagBackRow.domain false) (Rows.tagBackSpec.post enc Try.prog Try.f5 false true false false) := by
  refine returnsInHanded_of_change (C := Try.checked) own started (by kernel_rfl) Try.func5
    (ChangeSpec.witness6 (enc := enc) (C := Try.checked) false ⟨#[], #[.agg #[.int .u8 0, .int .i64 0, .int .u64 0, .int .i64 0, .int .i64 0], .string ⟨#[]⟩, .agg #[.int .u16 0, .int .u16 0]], []⟩ 8 (by kernel_rfl) (by kernel_rfl) (by kernel_rfl) (by kernel_rfl)) ?_
  intro W base args ds gs before hval0 hW _ _
  have hval : ∀ (j : Nat) t v, Try.f5.params[j]? = some t → args[j]? = some v → Value.okWide Try.prog W .any base t v := hval0
  have hW' := hW
  obtain ⟨p, q, hA0, hV, rfl, hfz, hnd⟩ := hW
  have hA : DataW.TrodAll enc Try.prog W 0 (fun _ => true) true Try.f5.params.toList args.toList ds p := hA0
  rw [Try.params5] at hA hval
  obtain ⟨v0, vs0, d0, ds0, p0, q0, hargs, rfl, rfl, h0, r0⟩ := trodAll_cons hA
  obtain ⟨v1, vs1, d1, ds1, p1, q1, rfl, rfl, rfl, h1, r1⟩ := trodAll_cons r0
  obtain ⟨v2, vs2, d2, ds2, p2, q2, rfl, rfl, rfl, h2, r2⟩ := trodAll_cons r1
  obtain ⟨rfl, rfl, rfl⟩ := trodAll_nil r2
  obtain rfl : args = #[v0, v1, v2] := by cases args; simp_all
  obtain ⟨rfl, rfl⟩ := trodVars_none hV
  have z0 := open_tag (hval 0 24 v0 rfl rfl) h0
  obtain ⟨data, rfl, rfl, rfl, w1⟩ := ChangeMaps.open_string Try.underlying9 (hval 1 9 v1 rfl rfl) h1
  have z1 : data.size ≤ 9223372036854775807 := w1
  have z2 := open_nums_array 2 Try.underlying56 Try.underlying55 (by kernel_rfl) (by kernel_rfl) (hval 2 56 v2 rfl rfl) h2
  clear hA0 hval0
  refine (tagBack_all v0 z0 data z1 v2 z2 W).mono fun e W' ⟨he, hb⟩ => ?_
  subst he
  exact ⟨_, rfl, post_law laidOut (of_decide_eq_true (by kernel_rfl)) rfl rfl Try.underlying4 hW' ⟨rfl, rfl, rfl⟩ hb⟩

/-- THE STATEMENT -/
theorem tagBack_holds : Rows.TagBackSaid :=
  OpenClaim.holds_of_wide 5 Try.f5 rfl rfl rfl rfl rfl rfl rfl ⟨rfl, rfl, rfl, rfl, rfl⟩ rfl rfl rfl rfl rfl (by kernel_rfl) Try.func5 (by kernel_rfl)
    (of_decide_eq_true (by kernel_rfl)) (by unfold Func.isWrapper; first | (rw [if_pos (by decide +kernel)]; kernel_rfl) | (rw [if_neg (by decide +kernel)]; exact ⟨rfl, rfl⟩))
    (fun os started H enc _ => tagBack_lifted os started H enc)

end Go.Proofs.Ytoigejgpagoghaa
