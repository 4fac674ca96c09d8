/-
  Layer 2: the table at a block, what keeps it.
-/
import Derived.Test.YtdjaldkjpmcbdaaRef2
import Derived.Test.YtdjaldkjpmcbdaaKitN
namespace Go.Proofs.Ytdjaldkjpmcbdaa
set_option linter.unusedSimpArgs false
set_option linter.unusedVariables false
open Go.RowKit Go.WideShapes Go.ChangeShapes Go.ChangeAt

theorem tabAt_of_block {w : World} {b : Nat} {t : TypeId} {fr : Nat × Nat} (h : w.heap[b]? = some (.cells (tabC 256) t fr)) : TabAt w b 0 := by
  intro k hk
  rw [cell_of_block h, Nat.zero_add, tabC_at _ _ hk, if_pos hk]
theorem tabAt_below {B : Nat} {w w' : World} {b o : Nat} (h : TabAt w b o) (hb : Below B w w') (hlt : b < B) : TabAt w' b o := fun k hk => by
  rw [hb.cell (p := ⟨b, o + k, none⟩) hlt]; exact h k hk
theorem tabAt_lt {w : World} {b o : Nat} (h : TabAt w b o) : b < w.heap.size := World.block_lt_of_cell? w _ (h 0 (by omega))
theorem tabAt_kept {w w' : World} {b o : Nat} (h : TabAt w b o) (hb : Below w.heap.size w w') : TabAt w' b o := tabAt_below h hb (tabAt_lt h)
theorem tabAt_drewN {w : World} {b o : Nat} (h : TabAt w b o) (n : Nat) : TabAt (w.drewN n) b o := fun k hk => h k hk
theorem tabAt_drew {w : World} {b o : Nat} (h : TabAt w b o) : TabAt w.drew b o := fun k hk => h k hk
theorem below_drewN' {B : Nat} {a w : World} (h : Below B a w) (n : Nat) : Below B a (w.drewN n) := ⟨h.os, h.tape, h.output, h.size, h.block⟩
theorem more_int (b o : Nat) (t : Int) (t0 : 0 ≤ t) (t1 : t < 4294967296) (l : ByteArray) (hl : l.size ≤ 9223372036854775807) (w : World) (ht : TabAt w b o) :
    Calls Try.prog 31 #[.pointer (some ⟨b, o, none⟩), .int .u32 t, .string l] w fun e w' => e = .returned (.int .u32 (mN (BitVec.ofNat 32 t.toNat) l.data.toList : Int)) ∧ ∃ n, w' = w.drewN n := by
  have h := more_any b o (BitVec.ofNat 32 t.toNat) l hl w ht
  rwa [show (((BitVec.ofNat 32 t.toNat).toNat : Nat) : Int) = t by rw [BitVec.toNat_ofNat]; omega] at h
theorem cN_le (l : List UInt8) : cN l ≤ 4294967295 := Nat.sub_le _ _
theorem cN_wrap (l : List UInt8) : IntKind.u64.wrap (cN l : Int) = (cN l : Int) := by
  have := cN_le l
  exact wraps_u64 _ (by omega) (by omega)
theorem more_mN (b o : Nat) (x : List UInt8) (l : ByteArray) (hl : l.size ≤ 9223372036854775807) (w : World) (ht : TabAt w b o) :
    Calls Try.prog 31 #[.pointer (some ⟨b, o, none⟩), .int .u32 (mN firstS x : Int), .string l] w fun e w' => e = .returned (.int .u32 (mN firstS (x ++ l.data.toList) : Int)) ∧ ∃ n, w' = w.drewN n := by
  have h := more_any b o (moreS firstS x) l hl w ht
  unfold mN
  unfold mN at h
  rw [more_append]
  exact h
theorem more_first (b o : Nat) (l : ByteArray) (hl : l.size ≤ 9223372036854775807) (w : World) (ht : TabAt w b o) :
    Calls Try.prog 31 #[.pointer (some ⟨b, o, none⟩), .int .u32 4294967295, .string l] w fun e w' => e = .returned (.int .u32 (mN firstS l.data.toList : Int)) ∧ ∃ n, w' = w.drewN n := by
  have h := more_any b o firstS l hl w ht
  rwa [show ((firstS.toNat : Nat) : Int) = 4294967295 from rfl] at h
theorem tab_store (W : World) : (storeCells ⟨W.heap.size, 0, none⟩ (tabC 256).toList).run Try.prog (W.alloc (.cells (tabC 0) 25)) = .ok () (W.alloc (.cells (tabC 256) 25)) :=
  run_storeCells_new W _ _ _ (tab_size' 256) (tabC_sizes 0 256) (tabC_one 256)
theorem tabAt_new (W : World) : TabAt (W.alloc (.cells (tabC 256) 25)) W.heap.size 0 := tabAt_of_block (heap_alloc_last W _)
/-- the state tells the bytes: one byte another one is another state, and states that are unlike stay so -/
theorem more_inj (s s' : St) (l : List UInt8) (h : moreS s l = moreS s' l) : s = s' := by
  induction l generalizing s s' with
  | nil => exact h
  | cons x l ih =>
    rw [more_cons, more_cons s'] at h
    have h1 := ih _ _ h
    unfold moreS at h1
    rw [steps_word _ _ (by simp [bitsL, bitsU]), steps_word _ _ (by simp [bitsL, bitsU])] at h1
    have h2 := Tn_inj h1
    have h3 := congrArg (· ^^^ word 0 (bitsL [x])) h2
    simpa [BitVec.xor_assoc] using h3
theorem more_byte_inj (s : St) (x y : UInt8) (h : moreS s [x] = moreS s [y]) : x = y := by
  unfold moreS at h
  rw [show bitsL [x] = bitsU x by simp [bitsL], show bitsL [y] = bitsU y by simp [bitsL], steps_word _ _ (by simp [bitsU]), steps_word _ _ (by simp [bitsU]), bitsU_length, bitsU_length] at h
  have h2 := Tn_inj h
  have h3 := congrArg (s ^^^ ·) h2
  simp only [← BitVec.xor_assoc, BitVec.xor_self, BitVec.zero_xor, word_bitsU] at h3
  have h4 := congrArg BitVec.toNat h3
  rw [BitVec.toNat_shiftLeft, BitVec.toNat_shiftLeft, Nat.shiftLeft_eq, Nat.shiftLeft_eq, BitVec.zeroExtend_eq_setWidth, BitVec.zeroExtend_eq_setWidth, BitVec.toNat_setWidth, BitVec.toNat_setWidth] at h4
  have hx := x.toNat_lt
  have hy := y.toNat_lt
  apply UInt8.toNat_inj.1
  have ex : x.toBitVec.toNat = x.toNat := rfl
  have ey : y.toBitVec.toNat = y.toNat := rfl
  rw [ex, ey] at h4
  omega
theorem cN_one_other (a c : List UInt8) (x y : UInt8) (h : cN (a ++ x :: c) = cN (a ++ y :: c)) : x = y := by
  have h1 : ∀ l, mN firstS l ≤ 4294967295 := fun l => by have := mN_lt firstS l; omega
  have h2 : mN firstS (a ++ x :: c) = mN firstS (a ++ y :: c) := by
    have e1 := h1 (a ++ x :: c)
    have e2 := h1 (a ++ y :: c)
    unfold cN at h
    omega
  unfold mN at h2
  have h3 := BitVec.eq_of_toNat_eq h2
  rw [more_append, more_append, more_cons, more_cons _ y] at h3
  exact more_byte_inj _ _ _ (more_inj _ _ _ h3)
end Go.Proofs.Ytdjaldkjpmcbdaa
