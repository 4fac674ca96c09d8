/-
  Layer 28: the document's Decode: plain, and the frame.
-/
import Derived.Test.YtkbikflincjhhaaReqE
import Derived.Test.YtkbikflincjhhaaReq4
import Derived.Test.YtkbikflincjhhaaRep2

namespace Go.Proofs.Ytkbikflincjhhaa
set_option linter.unusedSimpArgs false
set_option linter.unusedVariables false
open Go.RowKit Go.WideShapes Go.ChangeShapes Go.ChangeAt Go.Deep

def rdC (x : RqM) (lv : Value) : Array Value := #[.int .u8 x.k, .int .i64 x.code, .int .u8 x.ak, .string x.name, .int .u64 x.key, .int .i64 x.ref, .int .i64 x.amt, .int .i64 x.n, lv]
def rdZ : Array Value := #[.int .u8 0, .int .i64 0, .int .u8 0, .string ⟨#[]⟩, .int .u64 0, .int .i64 0, .int .i64 0, .int .i64 0, .slice none 0 0]
def RDecIs (l : List UInt8) (w : World) (e : Ending) (w' : World) : Prop := ∃ (a : Option Addr) (c : Nat), e = .returned (.tuple #[.agg (rdC (decX l) (.slice a (decX l).L.length c)), .bool (decO l)]) ∧ LnIn w' a (decX l).L ∧ Below w.heap.size w w'
structure RdF (w W : World) (ra nb rb : Nat) (C : Array Value) : Prop where
  res : W.heap[ra]? = some (.cells rdZ 42 (0, 0))
  non : W.heap[nb]? = some (.cells rdZ 42 (0, 0))
  box : W.heap[rb]? = some (.cells C 42 (0, 0))
  below : Below w.heap.size w W
  new : (w.heap.size ≤ ra ∧ w.heap.size ≤ nb ∧ w.heap.size ≤ rb) ∧ ra ≠ nb ∧ ra ≠ rb ∧ nb ≠ rb
theorem RdF.low {w W W' : World} {ra nb rb : Nat} {C : Array Value} (h : RdF w W ra nb rb C) (hb : Below W.heap.size W W') : RdF w W' ra nb rb C :=
  ⟨(hb.block _ (heap_lt h.res)).trans h.res, (hb.block _ (heap_lt h.non)).trans h.non, (hb.block _ (heap_lt h.box)).trans h.box, h.below.trans (hb.mono h.below.size), h.new⟩
theorem RdF.store {w W : World} {ra nb rb : Nat} {C : Array Value} (h : RdF w W ra nb rb C) (j : Nat) (v : Value) : RdF w (W.setCell ⟨rb, j, none⟩ v) ra nb rb (C.setIfInBounds j v) := by
  obtain ⟨⟨n1, n2, n3⟩, n4, n5, n6⟩ := h.new
  exact ⟨(block_setCell_other (Ne.symm n5) j v).trans h.res, (block_setCell_other (Ne.symm n6) j v).trans h.non, block_setCell h.box j v, h.below.setCell (p := ⟨rb, j, none⟩) n3 v, h.new⟩
theorem RdF.mk3 {w : World} (k : Int) : RdF w (((w.alloc (.cells rdZ 42)).alloc (.cells rdZ 42)).alloc (.cells #[.int .u8 k, .int .i64 0, .int .u8 0, .string ⟨#[]⟩, .int .u64 0, .int .i64 0, .int .i64 0, .int .i64 0, .slice none 0 0] 42)) w.heap.size (w.heap.size + 1) (w.heap.size + 2) #[.int .u8 k, .int .i64 0, .int .u8 0, .string ⟨#[]⟩, .int .u64 0, .int .i64 0, .int .i64 0, .int .i64 0, .slice none 0 0] := by
  have s1 : (w.alloc (.cells rdZ 42)).heap.size = w.heap.size + 1 := Array.size_push ..
  have s2 : ((w.alloc (.cells rdZ 42)).alloc (.cells rdZ 42)).heap.size = w.heap.size + 2 := (Array.size_push ..).trans (by rw [s1])
  have x1 : (w.alloc (.cells rdZ 42)).heap[w.heap.size]? = some (.cells rdZ 42 (0, 0)) := heap_new _ _
  have b1 := (Below.refl w.heap.size w).alloc (Nat.le_refl _) (.cells rdZ 42)
  generalize w.alloc (.cells rdZ 42) = w1 at *
  have x2 : (w1.alloc (.cells rdZ 42)).heap[w1.heap.size]? = some (.cells rdZ 42 (0, 0)) := heap_new _ _
  have b2 := (Below.refl w1.heap.size w1).alloc (Nat.le_refl _) (.cells rdZ 42)
  have y1 := (b2.block _ (heap_lt x1)).trans x1
  generalize w1.alloc (.cells rdZ 42) = w2 at *
  have b3 := (Below.refl w2.heap.size w2).alloc (Nat.le_refl _) (.cells #[.int .u8 k, .int .i64 0, .int .u8 0, .string ⟨#[]⟩, .int .u64 0, .int .i64 0, .int .i64 0, .int .i64 0, .slice none 0 0] 42)
  have x3 := heap_new w2 (.cells #[.int .u8 k, .int .i64 0, .int .u8 0, .string ⟨#[]⟩, .int .u64 0, .int .i64 0, .int .i64 0, .int .i64 0, .slice none 0 0] 42)
  rw [s1] at x2
  rw [s2] at x3
  refine ⟨(b3.block _ (heap_lt y1)).trans y1, (b3.block _ (heap_lt x2)).trans x2, x3, (b1.trans (b2.mono (by omega))).trans (b3.mono (by omega)), ⟨by omega, by omega, by omega⟩, by omega, by omega, by omega⟩
theorem row9_one {k code ak key ref amt n : Int} {s : ByteArray} {a : Option Addr} {m c : Nat} : (#[.int .u8 k, .int .i64 code, .int .u8 ak, .string s, .int .u64 key, .int .i64 ref, .int .i64 amt, .int .i64 n, .slice a m c] : Array Value).all (·.oneCell') = true := by simp [Value.oneCell']
theorem row9_oneZ : rdZ.all (·.oneCell') = true := row9_one
theorem str_neN {a b : ByteArray} (h : ¬ a = b) : (!a.toList == b.toList) = true := by
  have : (a.toList == b.toList) = false := by
    rw [ByteArray.toList_eq, ByteArray.toList_eq, beq_eq_false_iff_ne]
    intro h2
    exact h (ByteArray.ext (Array.toList_inj.1 h2))
  rw [this]; rfl
def lenV : Value → Nat
  | .string s => s.size
  | _ => 0
theorem rd_size {X : ByteArray} {P : List UInt8} (h : X = bs P) : X.size = P.length := by rw [h]; rfl
/-- the padded rest -/
structure PadOf (l : List UInt8) (X : ByteArray) : Prop where
  big : 24 ≤ X.size
  is : ∃ m, X = bs (l.drop 1 ++ List.replicate m 0)
theorem pad_fl {l : List UInt8} {X : ByteArray} (hP : PadOf l X) (a b : Nat) (h : b + 1 ≤ l.length) : getN (X.extract a b).data.toList = fl l (a + 1) (b - a) := by
  obtain ⟨m, rfl⟩ := hP.is
  have e : ((bs (l.drop 1 ++ List.replicate m 0)).extract a b).data.toList = ((l.drop 1 ++ List.replicate m 0).drop a).take (b - a) := by
    rw [ByteArray.data_extract, Array.toList_extract, List.extract_eq_take_drop]; rfl
  rw [e]
  unfold fl
  by_cases hab : a ≤ b
  · rw [List.drop_append_of_le_length (by rw [List.length_drop]; omega), List.drop_drop, List.take_append_of_le_length (by rw [List.length_drop]; omega), Nat.add_comm 1 a]
  · rw [show b - a = 0 by omega, List.take_zero, List.take_zero]
theorem pad_byte {l : List UInt8} {X : ByteArray} (hP : PadOf l X) (i : Nat) (h : i + 1 < l.length) (hi : i < X.size) : (X[i]).toNat = (l.getD (i + 1) 0).toNat := by
  obtain ⟨m, rfl⟩ := hP.is
  have hi' : i < (l.drop 1 ++ List.replicate m 0).length := hi
  show ((l.drop 1 ++ List.replicate m 0)[i]'hi').toNat = _
  rw [List.getElem_append_left (by rw [List.length_drop]; omega), List.getElem_drop]
  simp only [Nat.add_comm 1 i, List.getD_eq_getElem?_getD, List.getElem?_eq_getElem h, Option.getD_some]
theorem ext_drop (l : List UInt8) (n : Nat) : (bs l).extract n (bs l).size = bs (l.drop n) := by
  apply ByteArray.ext
  rw [ByteArray.data_extract]
  apply Array.toList_inj.1
  rw [Array.toList_extract, List.extract_eq_take_drop]
  show ((l.drop n).take (l.length - n)) = l.drop n
  exact List.take_of_length_le (by rw [List.length_drop]; omega)
theorem cat_bs (a b : List UInt8) : bs a ++ bs b = bs (a ++ b) := bs_app a b
theorem num_lt (X : ByteArray) (a b w : Nat) (h : b ≤ X.size) (hw : b - a = w) : getN (X.extract a b).data.toList < 256 ^ w := by
  have h1 := getN_lt (X.extract a b).data.toList
  have h2 : (X.extract a b).data.toList.length = w := by rw [size_list, ByteArray.size_extract]; omega
  rwa [h2] at h1
theorem num_sz (X : ByteArray) (a b : Nat) (hab : b ≤ a + 8) : (X.extract a b).size ≤ 8 := by rw [ByteArray.size_extract]; omega
/-- the end: the bytes are a request's -/
theorem rdec_yes {l : List UInt8} (h : decO l = true) {R : RqM} (hR : decR l = R) : encOk R = true ∧ rencS R = bs l := by
  subst hR
  obtain ⟨h1, h2⟩ := dec_enc l h
  exact ⟨h1, by unfold rencS; rw [h1, if_pos rfl, h2]⟩
/-- the end: they are not -/
theorem rdec_no {l : List UInt8} (h : ¬ decO l = true) {R : RqM} (ho : encOk R = true) : ¬ rencS R = bs l := fun e => by
  unfold rencS at e
  rw [if_pos ho] at e
  have e1 := congrArg (fun x : ByteArray => x.data.toList) e
  have e2 : encT R = l := by simpa [bs] using e1
  have h1 := (enc_dec R ho).1
  rw [e2] at h1
  exact h h1
theorem rdec_end_no {l : List UInt8} {w W : World} (h : ¬ decO l = true) (hb : Below w.heap.size w W) : RDecIs l w (.returned (.tuple #[.agg rdZ, .bool false])) W := by
  obtain ⟨-, h2⟩ := dec_no h
  have h3 : decO l = false := by simpa using h
  refine ⟨none, 0, ?_, by rw [h2]; exact fun i hi => absurd hi (Nat.not_lt_zero i), hb⟩
  rw [h2, h3]; rfl
theorem rdec_end_yes {l : List UInt8} {w W : World} (h : decO l = true) {R : RqM} (hR : decR l = R) (a : Option Addr) (c : Nat) (hin : LnIn W a R.L) (hb : Below w.heap.size w W) : RDecIs l w (.returned (.tuple #[.agg (rdC R (.slice a R.L.length c)), .bool true])) W := by
  obtain ⟨-, h2⟩ := dec_yes h
  rw [hR] at h2
  exact ⟨a, c, by rw [h2, h], by rw [h2]; exact hin, hb⟩
theorem wrap64_i64 (n : Int) : IntKind.i64.wrap n = wrap64 n := by rw [IntKind.wrap_i64]; unfold wrap64; omega
theorem wrap64_in (n : Int) : inR (wrap64 n) := wrap64_bd n
theorem dec_ne {l : List UInt8} (h : decO l = true) : 1 ≤ l.length := (of_decide_eq_true h).1
theorem dec_len {l : List UInt8} (h : decO l = true) : l.length = lenOf l := (of_decide_eq_true h).2.2.2.1
theorem dec_few {l : List UInt8} (h : decO l = true) (hk : kd l = 4 ∨ kd l = 9) : (l.getD 9 0).toNat ≤ 8 := (of_decide_eq_true h).2.2.2.2 hk
theorem cnt_drop (l : List UInt8) (n : Nat) (h : n < l.length) : cntS (bs (l.drop n)) = (l.getD n 0).toNat := by
  have e : ((bs (l.drop n)).extract 0 1).data.toList = [l[n]] := by
    rw [ByteArray.data_extract, Array.toList_extract, List.extract_eq_take_drop]
    show ((l.drop n).drop 0).take 1 = _
    rw [List.drop_zero, List.drop_eq_getElem_cons h]; rfl
  unfold cntS
  rw [e]
  simp [last8, getN, List.getD, h]
theorem lines_ok {l : List UInt8} (h : decO l = true) (hk : kd l = 4 ∨ kd l = 9) : readOk (bs (l.drop 9)) = true ∧ readL (bs (l.drop 9)) (l.getD 9 0).toNat = rdL (bs (l.drop 9)) := by
  have h1 := dec_len h
  rw [lenOf_4 hk] at h1
  have h2 := dec_few h hk
  have hc := cnt_drop l 9 (by omega)
  have ho : readOk (bs (l.drop 9)) = true := by
    unfold readOk
    rw [hc, bs_size, List.length_drop]
    exact decide_eq_true (by omega)
  exact ⟨ho, by unfold rdL; rw [if_pos ho, hc]⟩
theorem rdL_few (s : ByteArray) : (rdL s).length ≤ 20 := by
  unfold rdL
  split
  · next h =>
    rw [readL_len]
    have := (of_decide_eq_true h).2.1
    omega
  · show 0 ≤ 20; omega
theorem rdL_lns (l : List UInt8) : ∀ x ∈ rdL (bs l), LnOk x := by
  intro x hx
  unfold rdL at hx
  split at hx
  · exact (ln_code l _ x hx).2
  · cases hx
theorem rdE_yes {s : ByteArray} (h : readOk s = true) : rdE s = 0 := if_pos h
theorem rdE_no {s : ByteArray} (h : ¬ readOk s = true) : rdE s = 4 := if_neg h
end Go.Proofs.Ytkbikflincjhhaa
