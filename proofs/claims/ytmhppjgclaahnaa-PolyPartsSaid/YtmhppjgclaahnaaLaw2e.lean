/-
  Layer 2: PolyParts.
-/
import Derived.Test.YtmhppjgclaahnaaLaw2d
namespace Go.Proofs.Ytmhppjgclaahnaa
set_option linter.unusedSimpArgs false
set_option linter.unusedVariables false
open Go.RowKit Go.WideShapes Go.ChangeShapes Go.ChangeAt

/-- an array of three texts, by value -/
theorem open_text3 {H : Type} {enc : TypeId × Value → H} {w : World} {base : Nat} {sp : Nat → Bool} {held : Bool} {r : Reach} {b0 : Nat} {v : Value} {d : DataW H} {ps : List MemPlace}
    (hv : Value.okWide Try.prog w r b0 38 v) (h : DataW.Trod enc Try.prog w base sp held 38 v d ps) :
    ∃ a b c : ByteArray, v = .agg #[.string a, .string b, .string c] ∧ a.size ≤ 9223372036854775807 ∧ b.size ≤ 9223372036854775807 ∧ c.size ≤ 9223372036854775807 := by
  obtain ⟨fuel, hf⟩ := h
  obtain ⟨xs, m, _, _, hlen, hxl, hi⟩ := DataW.trod_array Try.underlying38 hf
  have hC : Try.prog.cellsOf 38 = 3 := by kernel_rfl
  have hE : Try.prog.cellsOf 9 = 1 := by kernel_rfl
  have hagg : ∃ cs, v = .agg cs := by
    simp only [Value.okWide, Try.underlying38] at hv
    obtain ⟨cs, h1, _⟩ := hv
    exact ⟨cs, h1⟩
  obtain ⟨⟨l⟩, rfl⟩ := hagg
  rw [hC] at hlen
  simp only [Value.cells] at hlen hi
  match l, hlen with
  | [x, y, z], _ =>
    match xs, hxl with
    | [x', y', z'], _ =>
      rw [hE] at hi
      have g0 := hi 0 (by omega)
      have g1 := hi 1 (by omega)
      have g2 := hi 2 (by omega)
      simp at g0 g1 g2
      obtain ⟨a, ea, _, ha⟩ := DataW.trod_string Try.underlying9 g0
      obtain ⟨b, eb, _, hb⟩ := DataW.trod_string Try.underlying9 g1
      obtain ⟨c, ec, _, hc⟩ := DataW.trod_string Try.underlying9 g2
      simp at ea eb ec
      subst ea eb ec
      exact ⟨a, b, c, rfl, ha, hb, hc⟩

theorem not_xor3 (a b c : St) : ~~~ (a ^^^ b ^^^ c) = ~~~ a ^^^ ~~~ b ^^^ ~~~ c := by
  apply BitVec.eq_of_getLsbD_eq
  intro i hi
  simp only [BitVec.getLsbD_not, BitVec.getLsbD_xor, hi, decide_true, Bool.true_and]
  cases a.getLsbD i <;> cases b.getLsbD i <;> cases c.getLsbD i <;> rfl
/-- byte by byte, exclusive or, of three -/
def xor3 (a b c : List UInt8) : List UInt8 := List.zipWith (· ^^^ ·) (List.zipWith (· ^^^ ·) a b) c
theorem more_xor3 (a b c : List UInt8) (h1 : a.length = b.length) (h2 : b.length = c.length) (s : St) : moreS s (xor3 a b c) = moreS s a ^^^ moreS s b ^^^ moreS s c := by
  unfold moreS xor3
  have hab : (List.zipWith (· ^^^ ·) a b).length = c.length := by simp; omega
  rw [bitsL_xor _ _ hab, bitsL_xor _ _ h1]
  have e1 := steps_xor (bitsL a) (bitsL b) s 0#32 (by rw [bitsL_length, bitsL_length, h1])
  have hx : (xorL (bitsL a) (bitsL b)).length = (bitsL c).length := by simp [xorL, bitsL_length]; omega
  have e2 := steps_xor (xorL (bitsL a) (bitsL b)) (bitsL c) (s ^^^ s) s hx
  have e3 := steps_xor (bitsL a) (bitsL b) s s (by rw [bitsL_length, bitsL_length, h1])
  rw [e3] at e2
  rw [← e2]
  simp
theorem cN_st (l : List UInt8) : cN l = (~~~ (moreS firstS l)).toNat := by
  unfold cN
  rw [mN_def, BitVec.toNat_not]
theorem parts_c (a b c : List UInt8) (h1 : a.length = b.length) (h2 : b.length = c.length) :
    bits .xor .u32 (bits .xor .u32 (cN a : Int) (cN b : Int)) (cN c : Int) = (cN (xor3 a b c) : Int) := by
  have la : cN a < 4294967296 := by rw [cN_st]; exact (~~~ (moreS firstS a)).isLt
  have lb : cN b < 4294967296 := by rw [cN_st]; exact (~~~ (moreS firstS b)).isLt
  have lc : cN c < 4294967296 := by rw [cN_st]; exact (~~~ (moreS firstS c)).isLt
  have hx : cN a ^^^ cN b < 4294967296 := Nat.xor_lt_two_pow (n := 32) (by omega) (by omega)
  rw [u32_xor_nat _ _ la lb, u32_xor_nat _ _ hx lc, cN_st a, cN_st b, cN_st c, cN_st (xor3 a b c), more_xor3 a b c h1 h2, not_xor3, BitVec.toNat_xor, BitVec.toNat_xor]
/-- what the bytes hold behind k rounds -/
def mixL (l : List UInt8) (N k : Nat) : List UInt8 := l.take k ++ List.replicate (N - k) 0
theorem mixL_0 (l : List UInt8) (N : Nat) : mixL l N 0 = List.replicate N 0 := by simp [mixL]
theorem mixL_N (l : List UInt8) (N : Nat) (h : l.length = N) : mixL l N N = l := by simp [mixL, ← h]
theorem mixL_length (l : List UInt8) (N k : Nat) (h : l.length = N) (hk : k ≤ N) : (mixL l N k).length = N := by simp [mixL]; omega
theorem mixL_next (l : List UInt8) (N k : Nat) (h : l.length = N) (hk : k < N) : (mixL l N k).set k (l[k]'(by omega)) = mixL l N (k + 1) := by
  unfold mixL
  rw [List.set_append_right _ _ (by simp; omega), List.take_succ_eq_append_getElem (by omega), List.append_assoc]
  congr 1
  rw [show N - k = (N - (k + 1)) + 1 by omega, List.replicate_succ, List.length_take, show k - min k l.length = 0 by omega]
  rfl
theorem xor3_length (a b c : List UInt8) (h1 : a.length = b.length) (h2 : b.length = c.length) : (xor3 a b c).length = a.length := by simp [xor3]; omega
theorem xor3_at (a b c : List UInt8) (k : Nat) (ha : k < a.length) (hb : k < b.length) (hc : k < c.length) : (xor3 a b c)[k]'(by simp [xor3]; omega) = a[k] ^^^ b[k] ^^^ c[k] := by simp [xor3]
theorem xor3_eq (x y z : UInt8) : bits .xor .u8 (bits .xor .u8 (x.toNat : Int) (y.toNat : Int)) (z.toNat : Int) = ((x ^^^ y ^^^ z).toNat : Int) := by
  have hx := x.toNat_lt
  have hy := y.toNat_lt
  have hz := z.toNat_lt
  have h : x.toNat ^^^ y.toNat < 256 := Nat.xor_lt_two_pow (n := 8) (by omega) (by omega)
  rw [u8_xor_nat _ _ (by omega) (by omega), u8_xor_nat _ _ h (by omega), UInt8.toNat_xor, UInt8.toNat_xor]
theorem make_bytes (N : Nat) (h : N ≤ 400) (W : World) : (Instr.makeSlice 36 (.int .i64 (N : Int)) (.int .i64 (N : Int))).run Try.prog W = .ok (.slice (some ⟨W.heap.size, 0, none⟩) N N) (W.alloc (.cells (rowC (List.replicate N 0) 0) 5)) := by
  obtain ⟨i0, hi, hz0, hz1, hz2⟩ := info_parts (show (Try.prog.info? 5).map (fun i => (i.zero, i.size, i.bytes)) = some (some (.int .u8 0), 1, 1) by kernel_rfl)
  have hr := run_make (P := Try.prog) W 36 5 i0 (.int .u8 0) Try.underlying36 hi hz0 .i64 .i64 (N : Int) (N : Int) (by omega) (by omega) (by rw [hz2]; omega) (by omega)
  have hm : madeCells (Value.int .u8 0).cells (((N : Int).toNat) * 1) = rowC (List.replicate N 0) 0 := by
    apply Array.ext'
    simp only [madeCells, rowC, Value.cells, List.map_replicate, Int.toNat_natCast, Nat.mul_one]
    apply List.ext_getElem
    · simp
    · intro i h1 h2
      simp [Nat.mod_one]
  rw [hr, hz1, hm]
  simp
theorem min4 {P : Program} (ts : Array TypeId) (t : TypeId) (x y z u : Int) : ∃ n : Int, n ≤ x ∧ n ≤ y ∧ n ≤ z ∧ n ≤ u ∧ (n = x ∨ n = y ∨ n = z ∨ n = u) ∧
    ∀ w : World, (Builtin.min_ ts t #[.int .i64 x, .int .i64 y, .int .i64 z, .int .i64 u]).run P w = .ok (.int .i64 n) w := by
  refine ⟨if u < (if z < (if y < x then y else x) then z else (if y < x then y else x)) then u else (if z < (if y < x then y else x) then z else (if y < x then y else x)), ?_, ?_, ?_, ?_, ?_, fun w => ?_⟩
  · split <;> split <;> (try split) <;> omega
  · split <;> split <;> (try split) <;> omega
  · split <;> split <;> (try split) <;> omega
  · split <;> split <;> (try split) <;> omega
  · split <;> split <;> (try split) <;> omega
  · simp [Builtin.min_, Builtin.min2, Result.andThen, Sem.run_pure]

/-- the table lies at a block, and behind it the bytes; nothing older has turned -/
def PInv (b : Nat) (W0 : World) (c : Array Value) (w : World) : Prop := TabAt w b 0 ∧ b < w.heap.size ∧ Below (b + 1) W0 w ∧ w.heap[b + 1]? = some (.cells c 5 (0, 0))
theorem PInv.drew {b : Nat} {W0 : World} {c : Array Value} {w : World} (h : PInv b W0 c w) : PInv b W0 c w.drew := ⟨tabAt_drew h.1, h.2.1, h.2.2.1.drew, h.2.2.2⟩
theorem PInv.tab {b : Nat} {W0 : World} {c : Array Value} {w : World} (h : PInv b W0 c w) : TabAt w b 0 := h.1
theorem PInv.next {b : Nat} {W0 : World} {c : Array Value} {w w' : World} (h : PInv b W0 c w) (hb : Below w.heap.size w w') : PInv b W0 c w' := by
  have hB : b + 1 < w.heap.size := by
    rcases Nat.lt_or_ge (b + 1) w.heap.size with h1 | h1
    · exact h1
    · have h2 := h.2.2.2
      rw [Array.getElem?_eq_none h1] at h2
      cases h2
  have hBB : b + 1 < w'.heap.size := Nat.lt_of_lt_of_le hB hb.size
  exact ⟨tabAt_below h.1 hb h.2.1, by omega, h.2.2.1.trans (hb.mono (by omega)), by rw [hb.block _ hB]; exact h.2.2.2⟩
theorem PInv.conv {b : Nat} {W0 : World} {l : List UInt8} {k : Nat} {w : World} (h : PInv b W0 (rowC l 0) w) (hk : l.length = k) : (convert 36 9 (.slice (some ⟨b + 1, 0, none⟩) k k)).run Try.prog w = .ok (.string (bs l)) w :=
  conv_bytes w (b + 1) 0 k k l hk (fun i hi => by rw [Nat.zero_add, cell_of_block h.2.2.2, rowC_at _ _ _ (by omega)])
theorem sum_below (b o : Nat) (l : ByteArray) (hl : l.size ≤ 9223372036854775807) (w : World) (ht : TabAt w b o) :
    Calls Try.prog 14 #[.pointer (some ⟨b, o, none⟩), .string l] w fun e w' => e = .returned (.int .u32 (cN l.data.toList : Int)) ∧ Below w.heap.size w w' :=
  (sum_any b o l hl w ht).mono fun e w' ⟨he, n, hw⟩ => ⟨he, by subst hw; exact below_drewN' (Below.refl _ _) n⟩
theorem more_first (b o : Nat) (l : ByteArray) (hl : l.size ≤ 9223372036854775807) (w : World) (ht : TabAt w b o) :
    Calls Try.prog 16 #[.pointer (some ⟨b, o, none⟩), .int .u32 4294967295, .string l] w fun e w' => e = .returned (.int .u32 (mN firstS l.data.toList : Int)) ∧ Below w.heap.size w w' := by
  have h := more_any b o firstS l hl w ht
  rw [show ((firstS.toNat : Nat) : Int) = 4294967295 from rfl] at h
  exact h.mono fun e w' ⟨he, n, hw⟩ => ⟨he, by subst hw; exact below_drewN' (Below.refl _ _) n⟩
theorem more_mN (b o : Nat) (x : List UInt8) (l : ByteArray) (hl : l.size ≤ 9223372036854775807) (w : World) (ht : TabAt w b o) :
    Calls Try.prog 16 #[.pointer (some ⟨b, o, none⟩), .int .u32 (mN firstS x : Int), .string l] w fun e w' => e = .returned (.int .u32 (mN firstS (x ++ l.data.toList) : Int)) ∧ Below w.heap.size w w' := by
  have h := more_any b o (moreS firstS x) l hl w ht
  have e : mN (moreS firstS x) l.data.toList = mN firstS (x ++ l.data.toList) := by rw [mN_def, mN_def, more_append]
  rw [e] at h
  rw [show mN firstS x = (moreS firstS x).toNat from mN_def _ _]
  exact h.mono fun e w' ⟨he, n, hw⟩ => ⟨he, by subst hw; exact below_drewN' (Below.refl _ _) n⟩

set_option maxRecDepth 20000 in
set_option maxHeartbeats 1000000 in
theorem polyParts_walk (v : Value) (hv : ∃ a b c : ByteArray, v = .agg #[.string a, .string b, .string c] ∧ a.size ≤ 9223372036854775807 ∧ b.size ≤ 9223372036854775807 ∧ c.size ≤ 9223372036854775807) (at_ : Int) (at0 : 0 ≤ at_) (at1 : at_ ≤ 65535) (w : World) :
    Calls Try.prog 5 #[v, .int .u16 at_] w fun e w' => e = .returned (.bool true) ∧ Below w.heap.size w w' := by
  obtain ⟨a, b, c, rfl, ha, hb, hc⟩ := hv
  have z := (zero_of_info tab_zero).1
  have hsz := tabC_size 256
  have hst := tab_store
  obtain ⟨n, na, nb, nc, n4, nn, hmin⟩ := min4 (P := Try.prog) #[3, 3, 3, 3] 3 (a.size : Int) (b.size : Int) (c.size : Int) 400
  obtain ⟨N, rfl⟩ := Int.eq_ofNat_of_zero_le (show 0 ≤ n by omega)
  have nn' := hide nn
  clear nn
  go_enter Try.func5, Try.ntmps5
  go_wp2
  go_quiet (fail)
  have hX : (a.extract 0 N).size = N := by simp; omega
  have hY : (b.extract 0 N).size = N := by simp; omega
  have hZ : (c.extract 0 N).size = N := by simp; omega
  have hN : N ≤ 400 := by omega
  generalize a.extract 0 N = X at hX ⊢
  generalize b.extract 0 N = Y at hY ⊢
  generalize c.extract 0 N = Z at hZ ⊢
  have hB0 : Below w.heap.size w ((w.alloc (.cells #[.string a, .string b, .string c] 38)).drewN nq) := below_drewN' ((Below.refl _ _).alloc (Nat.le_refl _) _) nq
  generalize (w.alloc (.cells #[.string a, .string b, .string c] 38)).drewN nq = W0 at hB0 ⊢
  have hmk := make_bytes N hN
  go_wp2_with (first | (go_at_call 12; ((with_reducible refine (make_any _).mono ?_); rintro e w1 ⟨rfl, hb1⟩)))
  have hT1 := hide (tabAt_new w1)
  have hB1 := hide (hb1.alloc hb1.size (.cells (tabC 256) 24))
  have hL1 : w1.heap.size < (w1.alloc (.cells (tabC 256) 24)).heap.size := by simp
  clear hmk
  have hE0 := hide (show (w1.alloc (.cells (tabC 256) 24)).heap.size = w1.heap.size + 1 by simp)
  generalize w1.alloc (.cells (tabC 256) 24) = w2 at hT1 hB1 hL1 hE0 ⊢
  have hE : w2.heap.size = w1.heap.size + 1 := hE0.out
  have hlx : (xor3 X.data.toList Y.data.toList Z.data.toList).length = N := by rw [xor3_length _ _ _ (by rw [size_list, size_list, hX, hY]) (by rw [size_list, size_list, hY, hZ]), size_list, hX]
  have hlx' := hide hlx
  clear hlx
  go_loopw [45] (fun i wr => ∃ k : Nat, k ≤ N ∧ i = .int .i64 k ∧ Below w2.heap.size w2 wr ∧ wr.heap[w1.heap.size + 1]? = some (.cells (rowC (mixL (xor3 X.data.toList Y.data.toList Z.data.toList) N k) 0) 5 (0, 0))) (fun i _ => N - (intOf i).toNat)
  case atStart => exact ⟨0, by omega, rfl, (Below.refl _ _).alloc (Nat.le_refl _) _, by rw [mixL_0, ← hE]; exact heap_alloc_last _ _⟩
  case round =>
    obtain ⟨k, hk, rfl, hbk, hrk⟩ := hrel
    have hrk' := hide hrk
    clear hrk
    by_cases hlt : k < N
    · have hc0 := cell_of_block hrk'.out k
      have hml := mixL_length _ N k hlx'.out hk
      rw [rowC_at _ _ _ (by omega)] at hc0
      have hfr := frozen_of_block hrk'.out k
      have hset := hide (fun x => rowC_set (mixL (xor3 X.data.toList Y.data.toList Z.data.toList) N k) 0 k (by omega) x)
      have hnext := hide (mixL_next _ N k hlx'.out hlt)
      generalize (mixL (xor3 X.data.toList Y.data.toList Z.data.toList) N k).getD k 0 = q at hc0
      clear hml
      have i0 : (0 : Int) ≤ (k : Int) := by omega
      have i1 : (k : Int) < (N : Int) := by omega
      go_wp2
      go_region
      go_wp2
      go_roundw
      case rel =>
        refine ⟨k + 1, by omega, by go_num, (Below.setCell hbk (by simp; omega) _).drew, ?_⟩
        show (wr.setCell _ _).heap[_]? = _
        rw [block_setCell hrk'.out, xor3_eq, ← getElem_list X k (by omega), ← getElem_list Y k (by omega), ← getElem_list Z k (by omega), ← xor3_at _ _ _ k (by rw [size_list]; omega) (by rw [size_list]; omega) (by rw [size_list]; omega), hset.out, hnext.out]
      case measure => simp [intOf]; omega
    · have hkN : k = N := by omega
      subst hkN
      have hM : ∃ M : Nat, M ≤ k ∧ at_ % ((k : Int) + 1) = (M : Int) := ⟨(at_ % ((k : Int) + 1)).toNat, by
        have h1 := Int.emod_lt_of_pos at_ (show (0 : Int) < (k : Int) + 1 by omega)
        have h2 := Int.emod_nonneg at_ (show (k : Int) + 1 ≠ 0 by omega)
        omega, by
        have h2 := Int.emod_nonneg at_ (show (k : Int) + 1 ≠ 0 by omega)
        omega⟩
      obtain ⟨M, hM1, hM2⟩ := hM
      rw [hM2]
      clear hM2
      have hI0 := hide (show PInv w1.heap.size w2 (rowC (xor3 X.data.toList Y.data.toList Z.data.toList) 0) wr from ⟨tabAt_below hT1.out hbk hL1, Nat.lt_of_lt_of_le hL1 hbk.size, by rw [← hE]; exact hbk, by rw [mixL_N _ _ hlx'.out] at hrk'; exact hrk'.out⟩)
      have hkk : (xor3 X.data.toList Y.data.toList Z.data.toList).length = k := hlx'.out
      have hF : mN firstS (List.take M X.data.toList ++ List.take (k - M) (List.drop M X.data.toList)) = mN firstS X.data.toList := by
        congr 1
        rw [List.take_of_length_le (i := k - M) (l := X.data.toList.drop M) (by rw [List.length_drop, size_list]; omega), List.take_append_drop]
      have hm := mN_lt firstS X.data.toList
      have hm0 : (0 : Int) ≤ (mN firstS X.data.toList : Int) := by omega
      have hm1 : (mN firstS X.data.toList : Int) ≤ 4294967295 := by omega
      have hcN : (4294967295 : Int) - (mN firstS X.data.toList : Int) = (cN X.data.toList : Int) := by unfold cN; omega
      have hP := parts_c X.data.toList Y.data.toList Z.data.toList (by rw [size_list, size_list, hX, hY]) (by rw [size_list, size_list, hY, hZ])
      have hsx : (bs (xor3 X.data.toList Y.data.toList Z.data.toList)).size ≤ 9223372036854775807 := by rw [bs_size, hkk]; omega
      have hbx : (bs (xor3 X.data.toList Y.data.toList Z.data.toList)).data.toList = xor3 X.data.toList Y.data.toList Z.data.toList := rfl
      have hcv : True := trivial
      have hP := hide (parts_c X.data.toList Y.data.toList Z.data.toList (by rw [size_list, size_list, hX, hY]) (by rw [size_list, size_list, hY, hZ]))
/- GENERATED -/
      go_upto_region 11 with (fail)
      refine wp_region_any (by kernel_rfl) ?_
      try (change wpAny _ _ _ _ _ _ _ (World.drew _))
      refine wpAny_ready (rs := [0]) (by kernel_rfl) (by simp) ?_
      refine AllReady.cons rfl (fun K hK => ?_) AllReady.nil
      go_simp
      go_wp2_with (first | (go_at_call 13; ((with_reducible refine (wakes2 _).mono ?_); rintro e w0 ⟨rfl, hb0⟩; have hI := hI0.out.drew.next hb0)) | (go_at_call 20; ((with_reducible refine (first_any _).mono ?_); rintro e w' ⟨rfl, rfl⟩)) | (go_at_call 16; ((with_reducible refine (more_first _ _ _ (by first | exact hsx | omega | (simp; omega)) _ hI.tab).mono ?_); rintro e w5 ⟨rfl, hb5⟩; have hI := hI.next hb5; have hcv := hI.conv hkk)) | (go_at_call 16; ((with_reducible refine (more_mN _ _ _ _ (by first | exact hsx | omega | (simp; omega)) _ hI.tab).mono ?_); rintro e w5 ⟨rfl, hb5⟩; have hI := hI.next hb5; have hcv := hI.conv hkk)) | (go_at_call 18; ((with_reducible refine (last_any _ hm0 hm1 _).mono ?_); rintro e w' ⟨rfl, rfl⟩)) | (go_at_call 14; ((with_reducible refine (sum_below _ _ _ (by first | exact hsx | omega | (simp; omega)) _ hI.tab).mono ?_); rintro e w5 ⟨rfl, hb5⟩; have hI := hI.next hb5; have hcv := hI.conv hkk)))
      try (refine hK _ _ ?_; clear hK K)
      refine wpAny_take (i := 1) (v := ?_) rfl (by kernel_rfl) (by kernel_rfl) (by kernel_rfl) (fun _ _ _ h => h) (Or.inl ⟨?_, ?_⟩) ?_
      rotate_left
      · kernel_rfl
      · intro w
        go_simp
        try with_reducible rfl
      refine wpAny_take (i := 3) (v := ?_) rfl (by kernel_rfl) (by kernel_rfl) (by kernel_rfl) (fun _ _ _ h => h) (Or.inl ⟨?_, ?_⟩) ?_
      rotate_left
      · kernel_rfl
      · intro w
        go_simp
        try with_reducible rfl
      refine wpAny_take (i := 4) (v := ?_) rfl (by kernel_rfl) (by kernel_rfl) (by kernel_rfl) (fun _ _ _ h => h) (Or.inl ⟨?_, ?_⟩) ?_
      rotate_left
      · kernel_rfl
      · intro w
        go_simp
        try with_reducible rfl
      refine wpAny_take (i := 5) (v := ?_) rfl (by kernel_rfl) (by kernel_rfl) (by kernel_rfl) (fun _ _ _ h => h) (Or.inl ⟨?_, ?_⟩) ?_
      rotate_left
      · kernel_rfl
      · intro w
        go_simp
        try with_reducible rfl
      refine wpAny_take (i := 7) (v := ?_) rfl (by kernel_rfl) (by kernel_rfl) (by kernel_rfl) (fun _ _ _ h => h) (Or.inl ⟨?_, ?_⟩) ?_
      rotate_left
      · kernel_rfl
      · intro w
        go_simp
        try with_reducible rfl
      refine wpAny_take (i := 8) (v := ?_) rfl (by kernel_rfl) (by kernel_rfl) (by kernel_rfl) (fun _ _ _ h => h) (Or.inl ⟨?_, ?_⟩) ?_
      rotate_left
      · kernel_rfl
      · intro w
        go_simp
        try with_reducible rfl
      refine wpAny_take (i := 9) (v := ?_) rfl (by kernel_rfl) (by kernel_rfl) (by kernel_rfl) (fun _ _ _ h => h) (Or.inl ⟨?_, ?_⟩) ?_
      rotate_left
      · kernel_rfl
      · intro w
        go_simp
        try with_reducible rfl
      refine wpAny_take (i := 12) (v := ?_) rfl (by kernel_rfl) (by kernel_rfl) (by kernel_rfl) (fun _ _ _ h => h) (Or.inl ⟨?_, ?_⟩) ?_
      rotate_left
      · kernel_rfl
      · intro w
        go_simp
        try with_reducible rfl
      refine wpAny_ready (rs := [2]) (by kernel_rfl) (by simp) ?_
      refine AllReady.cons rfl (fun K hK => ?_) AllReady.nil
      go_simp
      go_wp2_with (first | (go_at_call 13; ((with_reducible refine (wakes2 _).mono ?_); rintro e w0 ⟨rfl, hb0⟩; have hI := hI0.out.drew.next hb0)) | (go_at_call 20; ((with_reducible refine (first_any _).mono ?_); rintro e w' ⟨rfl, rfl⟩)) | (go_at_call 16; ((with_reducible refine (more_first _ _ _ (by first | exact hsx | omega | (simp; omega)) _ hI.tab).mono ?_); rintro e w5 ⟨rfl, hb5⟩; have hI := hI.next hb5; have hcv := hI.conv hkk)) | (go_at_call 16; ((with_reducible refine (more_mN _ _ _ _ (by first | exact hsx | omega | (simp; omega)) _ hI.tab).mono ?_); rintro e w5 ⟨rfl, hb5⟩; have hI := hI.next hb5; have hcv := hI.conv hkk)) | (go_at_call 18; ((with_reducible refine (last_any _ hm0 hm1 _).mono ?_); rintro e w' ⟨rfl, rfl⟩)) | (go_at_call 14; ((with_reducible refine (sum_below _ _ _ (by first | exact hsx | omega | (simp; omega)) _ hI.tab).mono ?_); rintro e w5 ⟨rfl, hb5⟩; have hI := hI.next hb5; have hcv := hI.conv hkk)))
      try (refine hK _ _ ?_; clear hK K)
      refine wpAny_ready (rs := [6]) (by kernel_rfl) (by simp) ?_
      refine AllReady.cons rfl (fun K hK => ?_) AllReady.nil
      go_simp
      go_wp2_with (first | (go_at_call 13; ((with_reducible refine (wakes2 _).mono ?_); rintro e w0 ⟨rfl, hb0⟩; have hI := hI0.out.drew.next hb0)) | (go_at_call 20; ((with_reducible refine (first_any _).mono ?_); rintro e w' ⟨rfl, rfl⟩)) | (go_at_call 16; ((with_reducible refine (more_first _ _ _ (by first | exact hsx | omega | (simp; omega)) _ hI.tab).mono ?_); rintro e w5 ⟨rfl, hb5⟩; have hI := hI.next hb5; have hcv := hI.conv hkk)) | (go_at_call 16; ((with_reducible refine (more_mN _ _ _ _ (by first | exact hsx | omega | (simp; omega)) _ hI.tab).mono ?_); rintro e w5 ⟨rfl, hb5⟩; have hI := hI.next hb5; have hcv := hI.conv hkk)) | (go_at_call 18; ((with_reducible refine (last_any _ hm0 hm1 _).mono ?_); rintro e w' ⟨rfl, rfl⟩)) | (go_at_call 14; ((with_reducible refine (sum_below _ _ _ (by first | exact hsx | omega | (simp; omega)) _ hI.tab).mono ?_); rintro e w5 ⟨rfl, hb5⟩; have hI := hI.next hb5; have hcv := hI.conv hkk)))
      try (refine hK _ _ ?_; clear hK K)
      refine wpAny_ready (rs := [10]) (by kernel_rfl) (by simp) ?_
      refine AllReady.cons rfl (fun K hK => ?_) AllReady.nil
      go_simp
      go_wp2_with (first | (go_at_call 13; ((with_reducible refine (wakes2 _).mono ?_); rintro e w0 ⟨rfl, hb0⟩; have hI := hI0.out.drew.next hb0)) | (go_at_call 20; ((with_reducible refine (first_any _).mono ?_); rintro e w' ⟨rfl, rfl⟩)) | (go_at_call 16; ((with_reducible refine (more_first _ _ _ (by first | exact hsx | omega | (simp; omega)) _ hI.tab).mono ?_); rintro e w5 ⟨rfl, hb5⟩; have hI := hI.next hb5; have hcv := hI.conv hkk)) | (go_at_call 16; ((with_reducible refine (more_mN _ _ _ _ (by first | exact hsx | omega | (simp; omega)) _ hI.tab).mono ?_); rintro e w5 ⟨rfl, hb5⟩; have hI := hI.next hb5; have hcv := hI.conv hkk)) | (go_at_call 18; ((with_reducible refine (last_any _ hm0 hm1 _).mono ?_); rintro e w' ⟨rfl, rfl⟩)) | (go_at_call 14; ((with_reducible refine (sum_below _ _ _ (by first | exact hsx | omega | (simp; omega)) _ hI.tab).mono ?_); rintro e w5 ⟨rfl, hb5⟩; have hI := hI.next hb5; have hcv := hI.conv hkk)))
      try (refine hK _ _ ?_; clear hK K)
      refine wpAny_ready (rs := [11]) (by kernel_rfl) (by simp) ?_
      refine AllReady.cons rfl (fun K hK => ?_) AllReady.nil
      go_simp
      go_wp2_with (first | (go_at_call 13; ((with_reducible refine (wakes2 _).mono ?_); rintro e w0 ⟨rfl, hb0⟩; have hI := hI0.out.drew.next hb0)) | (go_at_call 20; ((with_reducible refine (first_any _).mono ?_); rintro e w' ⟨rfl, rfl⟩)) | (go_at_call 16; ((with_reducible refine (more_first _ _ _ (by first | exact hsx | omega | (simp; omega)) _ hI.tab).mono ?_); rintro e w5 ⟨rfl, hb5⟩; have hI := hI.next hb5; have hcv := hI.conv hkk)) | (go_at_call 16; ((with_reducible refine (more_mN _ _ _ _ (by first | exact hsx | omega | (simp; omega)) _ hI.tab).mono ?_); rintro e w5 ⟨rfl, hb5⟩; have hI := hI.next hb5; have hcv := hI.conv hkk)) | (go_at_call 18; ((with_reducible refine (last_any _ hm0 hm1 _).mono ?_); rintro e w' ⟨rfl, rfl⟩)) | (go_at_call 14; ((with_reducible refine (sum_below _ _ _ (by first | exact hsx | omega | (simp; omega)) _ hI.tab).mono ?_); rintro e w5 ⟨rfl, hb5⟩; have hI := hI.next hb5; have hcv := hI.conv hkk)))
      try (refine hK _ _ ?_; clear hK K)
      refine wpAny_ready (rs := [13]) (by kernel_rfl) (by simp) ?_
      refine AllReady.cons rfl (fun K hK => ?_) AllReady.nil
      go_simp
      go_wp2_with (first | (go_at_call 13; ((with_reducible refine (wakes2 _).mono ?_); rintro e w0 ⟨rfl, hb0⟩; have hI := hI0.out.drew.next hb0)) | (go_at_call 20; ((with_reducible refine (first_any _).mono ?_); rintro e w' ⟨rfl, rfl⟩)) | (go_at_call 16; ((with_reducible refine (more_first _ _ _ (by first | exact hsx | omega | (simp; omega)) _ hI.tab).mono ?_); rintro e w5 ⟨rfl, hb5⟩; have hI := hI.next hb5; have hcv := hI.conv hkk)) | (go_at_call 16; ((with_reducible refine (more_mN _ _ _ _ (by first | exact hsx | omega | (simp; omega)) _ hI.tab).mono ?_); rintro e w5 ⟨rfl, hb5⟩; have hI := hI.next hb5; have hcv := hI.conv hkk)) | (go_at_call 18; ((with_reducible refine (last_any _ hm0 hm1 _).mono ?_); rintro e w' ⟨rfl, rfl⟩)) | (go_at_call 14; ((with_reducible refine (sum_below _ _ _ (by first | exact hsx | omega | (simp; omega)) _ hI.tab).mono ?_); rintro e w5 ⟨rfl, hb5⟩; have hI := hI.next hb5; have hcv := hI.conv hkk)))
      try (refine hK _ _ ?_; clear hK K)
      refine wpAny_take (i := 14) (v := ?_) rfl (by kernel_rfl) (by kernel_rfl) (by kernel_rfl) (fun _ _ _ h => h) (Or.inl ⟨?_, ?_⟩) ?_
      rotate_left
      · kernel_rfl
      · intro w
        go_simp
        try with_reducible rfl
      refine wpAny_take (i := 15) (v := ?_) rfl (by kernel_rfl) (by kernel_rfl) (by kernel_rfl) (fun _ _ _ h => h) (Or.inl ⟨?_, ?_⟩) ?_
      rotate_left
      · kernel_rfl
      · intro w
        go_simp
        try with_reducible rfl
      refine wpAny_take (i := 16) (v := ?_) rfl (by kernel_rfl) (by kernel_rfl) (by kernel_rfl) (fun _ _ _ h => h) (Or.inl ⟨?_, ?_⟩) ?_
      rotate_left
      · kernel_rfl
      · intro w
        go_simp
        try with_reducible rfl
      refine wpAny_take (i := 17) (v := ?_) rfl (by kernel_rfl) (by kernel_rfl) (by kernel_rfl) (fun _ _ _ h => h) (Or.inl ⟨?_, ?_⟩) ?_
      rotate_left
      · kernel_rfl
      · intro w
        go_simp
        try with_reducible rfl
      refine wpAny_take (i := 20) (v := ?_) rfl (by kernel_rfl) (by kernel_rfl) (by kernel_rfl) (fun _ _ _ h => h) (Or.inl ⟨?_, ?_⟩) ?_
      rotate_left
      · kernel_rfl
      · intro w
        go_simp
        try with_reducible rfl
      refine wpAny_take (i := 22) (v := ?_) rfl (by kernel_rfl) (by kernel_rfl) (by kernel_rfl) (fun _ _ _ h => h) (Or.inl ⟨?_, ?_⟩) ?_
      rotate_left
      · kernel_rfl
      · intro w
        go_simp
        try with_reducible rfl
      refine wpAny_take (i := 25) (v := ?_) rfl (by kernel_rfl) (by kernel_rfl) (by kernel_rfl) (fun _ _ _ h => h) (Or.inl ⟨?_, ?_⟩) ?_
      rotate_left
      · kernel_rfl
      · intro w
        go_simp
        try with_reducible rfl
      refine wpAny_ready (rs := [18]) (by kernel_rfl) (by simp) ?_
      refine AllReady.cons rfl (fun K hK => ?_) AllReady.nil
      go_simp
      go_wp2_with (first | (go_at_call 13; ((with_reducible refine (wakes2 _).mono ?_); rintro e w0 ⟨rfl, hb0⟩; have hI := hI0.out.drew.next hb0)) | (go_at_call 20; ((with_reducible refine (first_any _).mono ?_); rintro e w' ⟨rfl, rfl⟩)) | (go_at_call 16; ((with_reducible refine (more_first _ _ _ (by first | exact hsx | omega | (simp; omega)) _ hI.tab).mono ?_); rintro e w5 ⟨rfl, hb5⟩; have hI := hI.next hb5; have hcv := hI.conv hkk)) | (go_at_call 16; ((with_reducible refine (more_mN _ _ _ _ (by first | exact hsx | omega | (simp; omega)) _ hI.tab).mono ?_); rintro e w5 ⟨rfl, hb5⟩; have hI := hI.next hb5; have hcv := hI.conv hkk)) | (go_at_call 18; ((with_reducible refine (last_any _ hm0 hm1 _).mono ?_); rintro e w' ⟨rfl, rfl⟩)) | (go_at_call 14; ((with_reducible refine (sum_below _ _ _ (by first | exact hsx | omega | (simp; omega)) _ hI.tab).mono ?_); rintro e w5 ⟨rfl, hb5⟩; have hI := hI.next hb5; have hcv := hI.conv hkk)))
      try (refine hK _ _ ?_; clear hK K)
      refine wpAny_ready (rs := [19]) (by kernel_rfl) (by simp) ?_
      refine AllReady.cons rfl (fun K hK => ?_) AllReady.nil
      go_simp
      go_wp2_with (first | (go_at_call 13; ((with_reducible refine (wakes2 _).mono ?_); rintro e w0 ⟨rfl, hb0⟩; have hI := hI0.out.drew.next hb0)) | (go_at_call 20; ((with_reducible refine (first_any _).mono ?_); rintro e w' ⟨rfl, rfl⟩)) | (go_at_call 16; ((with_reducible refine (more_first _ _ _ (by first | exact hsx | omega | (simp; omega)) _ hI.tab).mono ?_); rintro e w5 ⟨rfl, hb5⟩; have hI := hI.next hb5; have hcv := hI.conv hkk)) | (go_at_call 16; ((with_reducible refine (more_mN _ _ _ _ (by first | exact hsx | omega | (simp; omega)) _ hI.tab).mono ?_); rintro e w5 ⟨rfl, hb5⟩; have hI := hI.next hb5; have hcv := hI.conv hkk)) | (go_at_call 18; ((with_reducible refine (last_any _ hm0 hm1 _).mono ?_); rintro e w' ⟨rfl, rfl⟩)) | (go_at_call 14; ((with_reducible refine (sum_below _ _ _ (by first | exact hsx | omega | (simp; omega)) _ hI.tab).mono ?_); rintro e w5 ⟨rfl, hb5⟩; have hI := hI.next hb5; have hcv := hI.conv hkk)))
      try (refine hK _ _ ?_; clear hK K)
      refine wpAny_ready (rs := [21]) (by kernel_rfl) (by simp) ?_
      refine AllReady.cons rfl (fun K hK => ?_) AllReady.nil
      go_simp
      go_wp2_with (first | (go_at_call 13; ((with_reducible refine (wakes2 _).mono ?_); rintro e w0 ⟨rfl, hb0⟩; have hI := hI0.out.drew.next hb0)) | (go_at_call 20; ((with_reducible refine (first_any _).mono ?_); rintro e w' ⟨rfl, rfl⟩)) | (go_at_call 16; ((with_reducible refine (more_first _ _ _ (by first | exact hsx | omega | (simp; omega)) _ hI.tab).mono ?_); rintro e w5 ⟨rfl, hb5⟩; have hI := hI.next hb5; have hcv := hI.conv hkk)) | (go_at_call 16; ((with_reducible refine (more_mN _ _ _ _ (by first | exact hsx | omega | (simp; omega)) _ hI.tab).mono ?_); rintro e w5 ⟨rfl, hb5⟩; have hI := hI.next hb5; have hcv := hI.conv hkk)) | (go_at_call 18; ((with_reducible refine (last_any _ hm0 hm1 _).mono ?_); rintro e w' ⟨rfl, rfl⟩)) | (go_at_call 14; ((with_reducible refine (sum_below _ _ _ (by first | exact hsx | omega | (simp; omega)) _ hI.tab).mono ?_); rintro e w5 ⟨rfl, hb5⟩; have hI := hI.next hb5; have hcv := hI.conv hkk)))
      try (refine hK _ _ ?_; clear hK K)
      refine wpAny_ready (rs := [23]) (by kernel_rfl) (by simp) ?_
      refine AllReady.cons rfl (fun K hK => ?_) AllReady.nil
      go_simp
      go_wp2_with (first | (go_at_call 13; ((with_reducible refine (wakes2 _).mono ?_); rintro e w0 ⟨rfl, hb0⟩; have hI := hI0.out.drew.next hb0)) | (go_at_call 20; ((with_reducible refine (first_any _).mono ?_); rintro e w' ⟨rfl, rfl⟩)) | (go_at_call 16; ((with_reducible refine (more_first _ _ _ (by first | exact hsx | omega | (simp; omega)) _ hI.tab).mono ?_); rintro e w5 ⟨rfl, hb5⟩; have hI := hI.next hb5; have hcv := hI.conv hkk)) | (go_at_call 16; ((with_reducible refine (more_mN _ _ _ _ (by first | exact hsx | omega | (simp; omega)) _ hI.tab).mono ?_); rintro e w5 ⟨rfl, hb5⟩; have hI := hI.next hb5; have hcv := hI.conv hkk)) | (go_at_call 18; ((with_reducible refine (last_any _ hm0 hm1 _).mono ?_); rintro e w' ⟨rfl, rfl⟩)) | (go_at_call 14; ((with_reducible refine (sum_below _ _ _ (by first | exact hsx | omega | (simp; omega)) _ hI.tab).mono ?_); rintro e w5 ⟨rfl, hb5⟩; have hI := hI.next hb5; have hcv := hI.conv hkk)))
      try (refine hK _ _ ?_; clear hK K)
      refine wpAny_take (i := 24) (v := ?_) rfl (by kernel_rfl) (by kernel_rfl) (by kernel_rfl) (fun _ _ _ h => h) (Or.inl ⟨?_, ?_⟩) ?_
      rotate_left
      · kernel_rfl
      · intro w
        go_simp
        try with_reducible rfl
      refine wpAny_ready (rs := [26]) (by kernel_rfl) (by simp) ?_
      refine AllReady.cons rfl (fun K hK => ?_) AllReady.nil
      go_simp
      go_wp2_with (first | (go_at_call 13; ((with_reducible refine (wakes2 _).mono ?_); rintro e w0 ⟨rfl, hb0⟩; have hI := hI0.out.drew.next hb0)) | (go_at_call 20; ((with_reducible refine (first_any _).mono ?_); rintro e w' ⟨rfl, rfl⟩)) | (go_at_call 16; ((with_reducible refine (more_first _ _ _ (by first | exact hsx | omega | (simp; omega)) _ hI.tab).mono ?_); rintro e w5 ⟨rfl, hb5⟩; have hI := hI.next hb5; have hcv := hI.conv hkk)) | (go_at_call 16; ((with_reducible refine (more_mN _ _ _ _ (by first | exact hsx | omega | (simp; omega)) _ hI.tab).mono ?_); rintro e w5 ⟨rfl, hb5⟩; have hI := hI.next hb5; have hcv := hI.conv hkk)) | (go_at_call 18; ((with_reducible refine (last_any _ hm0 hm1 _).mono ?_); rintro e w' ⟨rfl, rfl⟩)) | (go_at_call 14; ((with_reducible refine (sum_below _ _ _ (by first | exact hsx | omega | (simp; omega)) _ hI.tab).mono ?_); rintro e w5 ⟨rfl, hb5⟩; have hI := hI.next hb5; have hcv := hI.conv hkk)))
      try (refine hK _ _ ?_; clear hK K)
      refine wpAny_take (i := 27) (v := ?_) rfl (by kernel_rfl) (by kernel_rfl) (by kernel_rfl) (fun _ _ _ h => h) (Or.inl ⟨?_, ?_⟩) ?_
      rotate_left
      · kernel_rfl
      · intro w
        go_simp
        try with_reducible rfl
      refine wpAny_take (i := 28) (v := ?_) rfl (by kernel_rfl) (by kernel_rfl) (by kernel_rfl) (fun _ _ _ h => h) (Or.inl ⟨?_, ?_⟩) ?_
      rotate_left
      · kernel_rfl
      · intro w
        go_simp
        try with_reducible rfl
      refine wpAny_take (i := 29) (v := ?_) rfl (by kernel_rfl) (by kernel_rfl) (by kernel_rfl) (fun _ _ _ h => h) (Or.inl ⟨?_, ?_⟩) ?_
      rotate_left
      · kernel_rfl
      · intro w
        go_simp
        try with_reducible rfl
      refine wpAny_take (i := 30) (v := ?_) rfl (by kernel_rfl) (by kernel_rfl) (by kernel_rfl) (fun _ _ _ h => h) (Or.inl ⟨?_, ?_⟩) ?_
      rotate_left
      · kernel_rfl
      · intro w
        go_simp
        try with_reducible rfl
      refine wpAny_done (by kernel_rfl) ?_ _

      go_wp2
      go_ret
      exact ⟨rfl, below_trans hB0 (hB1.out.trans (Below.mono (B := w2.heap.size) (by rw [hE]; exact hI.2.2.1) (by have := hb1.size; omega)))⟩

set_option maxRecDepth 100000 in
theorem polyParts_lifted (os : Os) (started : os.Started) (H : Type) (enc : TypeId × Value → H) :
    ReturnsInHanded {} Try.checked os 5 .any (Rows.polyPartsSpec.pre6 enc Try.prog Try.f5 Rows.polyPartsRow.domain false) (Rows.polyPartsSpec.post enc Try.prog Try.f5 false true false false) := by
  refine returnsInHanded_of_change (C := Try.checked) own started (by kernel_rfl) Try.func5
    (ChangeSpec.witness6 (enc := enc) (C := Try.checked) false ⟨#[], #[.agg #[.string ⟨#[]⟩, .string ⟨#[]⟩, .string ⟨#[]⟩], .int .u16 0], []⟩ 8 (by kernel_rfl) (by kernel_rfl) (by kernel_rfl) (by kernel_rfl)) ?_
  intro W base args ds gs before hval0 hW _ _
  have hval : ∀ (j : Nat) t v, Try.f5.params[j]? = some t → args[j]? = some v → Value.okWide Try.prog W .any base t v := hval0
  have hW' := hW
  obtain ⟨p, q, hA0, hV, rfl, hfz, hnd⟩ := hW
  have hA : DataW.TrodAll enc Try.prog W 0 (fun _ => true) true Try.f5.params.toList args.toList ds p := hA0
  rw [Try.params5] at hA hval
  obtain ⟨v0, vs0, d0, ds0, p0, q0, hargs, rfl, rfl, h0, r0⟩ := trodAll_cons hA
  obtain ⟨v1, vs1, d1, ds1, p1, q1, rfl, rfl, rfl, h1, r1⟩ := trodAll_cons r0
  obtain ⟨rfl, rfl, rfl⟩ := trodAll_nil r1
  obtain rfl : args = #[v0, v1] := by cases args; simp_all
  obtain ⟨rfl, rfl⟩ := trodVars_none hV
  have z0 := open_text3 (hval 0 38 v0 rfl rfl) h0
  obtain ⟨at_, rfl, rfl, rfl, w1⟩ := open_int Try.underlying39 (hval 1 39 v1 rfl rfl) h1
  have z1 := wf_u16 w1
  clear hA0 hval0
  refine (polyParts_walk v0 z0 at_ z1.1 z1.2 W).mono fun e W' ⟨he, hb⟩ => ?_
  subst he
  exact ⟨_, rfl, post_law laidOut (of_decide_eq_true (by kernel_rfl)) rfl rfl Try.underlying4 hW' ⟨rfl, rfl, rfl⟩ hb⟩

/-- THE STATEMENT -/
theorem polyParts_holds : Rows.PolyPartsSaid :=
  OpenClaim.holds_of_wide 5 Try.f5 rfl rfl rfl rfl rfl rfl rfl ⟨rfl, rfl, rfl, rfl, rfl⟩ rfl rfl rfl rfl rfl (by kernel_rfl) Try.func5 (by kernel_rfl)
    (of_decide_eq_true (by kernel_rfl)) (by unfold Func.isWrapper; first | (rw [if_pos (by decide +kernel)]; kernel_rfl) | (rw [if_neg (by decide +kernel)]; exact ⟨rfl, rfl⟩))
    (fun os started H enc _ => polyParts_lifted os started H enc)

end Go.Proofs.Ytmhppjgclaahnaa
