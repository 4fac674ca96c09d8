/-
  Layer 28: requests as bytes: the plain mathematics.
-/
import Derived.Test.YtkbikflincjhhaaPoR
namespace Go.Proofs.Ytkbikflincjhhaa
set_option linter.unusedSimpArgs false
set_option linter.unusedVariables false
open Go.RowKit

/-- a request as a value; its lines beside it -/
structure RqM where
  k : Int
  ek : Int
  key : Int
  ref : Int
  amt : Int
  code : Int
  ak : Int
  name : ByteArray
  L : List LnM
  n : Int
def rq0 : RqM := ⟨0, 0, 0, 0, 0, 0, 0, ⟨#[]⟩, [], 0⟩
structure RqOk (r : RqM) : Prop where
  k : 0 ≤ r.k ∧ r.k ≤ 255
  key : 0 ≤ r.key ∧ r.key ≤ 18446744073709551615
  ref : inR r.ref
  amt : inR r.amt
  code : inR r.code
  ak : 0 ≤ r.ak ∧ r.ak ≤ 255
  name : r.name.size ≤ 9223372036854775807
  L : ∀ x ∈ r.L, LnOk x
  few : r.L.length ≤ 20
  n : inR r.n
def fit2 (x : Int) : Bool := decide (0 ≤ x ∧ x ≤ 65535)
def fit4 (x : Int) : Bool := decide (0 ≤ x ∧ x ≤ 4294967295)
def wu (x : Int) : Nat := (IntKind.u64.wrap x).toNat
/-- may its bytes be? -/
def encOk (r : RqM) : Bool :=
  if r.k = 1 then fit2 r.code && decide (r.name.size ≤ 255)
  else if r.k = 4 ∨ r.k = 9 then textOk r.L
  else if r.k = 5 ∨ r.k = 6 then fit4 r.ref
  else if r.k = 7 ∨ r.k = 8 then fit2 r.code
  else if r.k = 10 then fit2 r.n
  else if r.k = 11 ∨ r.k = 12 then fit4 r.n
  else decide (1 ≤ r.k ∧ r.k ≤ 14)
/-- its bytes behind the kind -/
def encB (r : RqM) : List UInt8 :=
  if r.k = 1 then putL (wu r.code) 2 ++ (putL r.ak.toNat 1 ++ (putL r.name.size 1 ++ r.name.data.toList))
  else if r.k = 4 ∨ r.k = 9 then putL r.key.toNat 8 ++ poT r.L
  else if r.k = 5 then putL r.key.toNat 8 ++ putL (wu r.ref) 4
  else if r.k = 6 then putL r.key.toNat 8 ++ (putL (wu r.ref) 4 ++ putL (wu r.amt) 8)
  else if r.k = 7 ∨ r.k = 8 then putL r.key.toNat 8 ++ (putL (wu r.amt) 8 ++ putL (wu r.code) 2)
  else if r.k = 10 then putL (wu r.n) 2
  else if r.k = 11 ∨ r.k = 12 then putL (wu r.n) 4
  else []
def encT (r : RqM) : List UInt8 := putL r.k.toNat 1 ++ encB r
def fl (l : List UInt8) (o w : Nat) : Nat := getN ((l.drop o).take w)
def kd (l : List UInt8) : Nat := (l.getD 0 0).toNat
def lenOf (l : List UInt8) : Nat :=
  if kd l = 1 then 5 + (l.getD 4 0).toNat
  else if kd l = 4 ∨ kd l = 9 then 10 + 10 * (l.getD 9 0).toNat
  else if kd l = 5 then 13 else if kd l = 6 then 21 else if kd l = 7 ∨ kd l = 8 then 19
  else if kd l = 10 then 3 else if kd l = 11 ∨ kd l = 12 then 5 else 1
/-- are these bytes a request's? -/
def decO (l : List UInt8) : Bool := decide (1 ≤ l.length ∧ 1 ≤ kd l ∧ kd l ≤ 14 ∧ l.length = lenOf l ∧ ((kd l = 4 ∨ kd l = 9) → (l.getD 9 0).toNat ≤ 8))
/-- the request of bytes -/
def decR (l : List UInt8) : RqM :=
  { rq0 with
    k := kd l
    ek := if kd l ≤ 9 then kd l else 0
    key := if 4 ≤ kd l ∧ kd l ≤ 9 then fl l 1 8 else 0
    ref := if kd l = 5 ∨ kd l = 6 then fl l 9 4 else 0
    amt := if kd l = 6 then wrap64 (fl l 13 8) else if kd l = 7 ∨ kd l = 8 then wrap64 (fl l 9 8) else 0
    code := if kd l = 1 then fl l 1 2 else if kd l = 7 ∨ kd l = 8 then fl l 17 2 else 0
    ak := if kd l = 1 then fl l 3 1 else 0
    name := if kd l = 1 then bs (l.drop 5) else ⟨#[]⟩
    L := if kd l = 4 ∨ kd l = 9 then readL (bs (l.drop 9)) (l.getD 9 0).toNat else []
    n := if kd l = 10 then fl l 1 2 else if kd l = 11 ∨ kd l = 12 then fl l 1 4 else 0 }
theorem fl_lt (l : List UInt8) (o w : Nat) : fl l o w < 256 ^ w := by
  unfold fl
  refine Nat.lt_of_lt_of_le (getN_lt _) (Nat.pow_le_pow_right (by decide) ?_)
  rw [List.length_take]; omega
theorem put_fl (l : List UInt8) (o w : Nat) (h : o + w ≤ l.length) : putL (fl l o w) w = (l.drop o).take w := by
  unfold fl
  have hl : ((l.drop o).take w).length = w := by rw [List.length_take, List.length_drop]; omega
  have := putL_getN ((l.drop o).take w)
  rwa [hl] at this
theorem wu_nat (n : Nat) (h : n < 18446744073709551616) : wu (n : Int) = n := by unfold wu; rw [IntKind.wrap_u64]; omega
theorem wu_wrap (n : Nat) (h : n < 18446744073709551616) : wu (wrap64 (n : Int)) = n := by
  unfold wu
  rw [IntKind.wrap_u64]
  unfold wrap64
  omega
theorem cut_here (l : List UInt8) (o w : Nat) : (l.drop o).take w ++ l.drop (o + w) = l.drop o := by
  have := List.take_append_drop w (l.drop o)
  rwa [List.drop_drop] at this
theorem first_byte (l : List UInt8) (h : 1 ≤ l.length) : putL (kd l) 1 = l.take 1 := by
  cases l with
  | nil => simp at h
  | cons b l =>
    show putL b.toNat 1 = [b]
    simp [putL, Nat.mod_eq_of_lt (show b.toNat < 256 from b.toNat_lt)]
theorem byte_fl (l : List UInt8) (o : Nat) (h : o < l.length) : fl l o 1 = (l.getD o 0).toNat := by
  have e : (l.drop o).take 1 = [l[o]] := by rw [List.drop_eq_getElem_cons h]; rfl
  unfold fl
  rw [e]
  simp [getN, List.getD, h]
theorem kd_lt (l : List UInt8) : kd l < 256 := (l.getD 0 0).toNat_lt
/-- a posting's fields, as a list -/
theorem lnR_list (l : List UInt8) (i : Nat) : lnR (bs l) i = ⟨wrap64 (fl l (1 + 10 * i) 2 : Int), wrap64 (fl l (3 + 10 * i) 8 : Int)⟩ := by
  have hx : ∀ a b : Nat, b - a ≤ 8 → gt ((bs l).extract a b) = (fl l a (b - a) : Int) := by
    intro a b hab
    unfold gt fl
    have e : ((bs l).extract a b).data.toList = (l.drop a).take (b - a) := by
      rw [ByteArray.data_extract, Array.toList_extract, List.extract_eq_take_drop]; rfl
    rw [e]
    unfold last8
    have hl : ((l.drop a).take (b - a)).length ≤ 8 := by rw [List.length_take]; omega
    rw [show ((l.drop a).take (b - a)).length - 8 = 0 by omega, List.drop_zero]
  unfold lnR
  rw [hx _ _ (by omega), hx _ _ (by omega), show 3 + 10 * i - (1 + 10 * i) = 2 by omega, show 11 + 10 * i - (3 + 10 * i) = 8 by omega]
theorem ln_put (l : List UInt8) (i : Nat) (h : 11 + 10 * i ≤ l.length) : lnT (lnR (bs l) i) = (l.drop (1 + 10 * i)).take 10 := by
  rw [lnR_list]
  unfold lnT
  have h1 := fl_lt l (1 + 10 * i) 2
  have h2 := fl_lt l (3 + 10 * i) 8
  have e1 : putS (IntKind.u64.wrap (wrap64 (fl l (1 + 10 * i) 2 : Int))) 2 = putL (wu (wrap64 (fl l (1 + 10 * i) 2 : Int))) 2 := by unfold putS wu; rw [if_pos (by decide)]; rfl
  have e2 : putS (IntKind.u64.wrap (wrap64 (fl l (3 + 10 * i) 8 : Int))) 8 = putL (wu (wrap64 (fl l (3 + 10 * i) 8 : Int))) 8 := by unfold putS wu; rw [if_pos (by decide)]; rfl
  dsimp only
  rw [e1, e2, wu_wrap _ (by omega), wu_wrap _ (by omega), put_fl _ _ _ (by omega), put_fl _ _ _ (by omega)]
  have := List.take_append_drop 2 ((l.drop (1 + 10 * i)).take 10)
  rw [List.take_take, List.drop_take, List.drop_drop, show min 2 10 = 2 from rfl, show 10 - 2 = 8 from rfl, show 1 + 10 * i + 2 = 3 + 10 * i by omega] at this
  exact this
theorem lns_put (l : List UInt8) (c : Nat) : 1 + 10 * c ≤ l.length → (readL (bs l) c).flatMap lnT = (l.drop 1).take (10 * c) := by
  induction c with
  | zero => intro _; simp [readL]
  | succ c ih =>
    intro h
    rw [readL_next, List.flatMap_append, ih (by omega), List.flatMap_cons, List.flatMap_nil, List.append_nil, ln_put l c (by omega), show 10 * (c + 1) = 10 * c + 10 by omega, List.take_add, List.drop_drop]
theorem putS_nat (n w : Nat) (h : 1 ≤ w ∧ w ≤ 8) : putS (n : Int) (w : Int) = putL n w := by unfold putS; rw [if_pos (by omega), Int.toNat_natCast, Int.toNat_natCast]
theorem po_put (l : List UInt8) (c : Nat) (h : 1 + 10 * c ≤ l.length) (hc : (l.getD 0 0).toNat = c) : poT (readL (bs l) c) = l.take (1 + 10 * c) := by
  unfold poT
  rw [lns_put l c h, readL_len, show (1 : Int) = ((1 : Nat) : Int) from rfl, putS_nat c 1 (by decide), ← hc]
  have := first_byte l (by omega)
  unfold kd at this
  rw [this, List.take_add]
theorem ln_code (l : List UInt8) (c : Nat) : ∀ x ∈ readL (bs l) c, codeOk x = true ∧ LnOk x := by
  intro x hx
  unfold readL at hx
  obtain ⟨i, -, rfl⟩ := List.mem_map.1 hx
  rw [lnR_list]
  have h1 := fl_lt l (1 + 10 * i) 2
  have h2 := fl_lt l (3 + 10 * i) 8
  refine ⟨decide_eq_true ?_, ?_, ?_⟩
  · dsimp only
    unfold wrap64
    omega
  · unfold inR wrap64; dsimp only; omega
  · unfold inR wrap64; dsimp only; omega
theorem read_ok (l : List UInt8) (c : Nat) (hc : c ≤ 8) : textOk (readL (bs l) c) = true := by
  unfold textOk badC
  rw [readL_len, decide_eq_true hc, Bool.true_and, Bool.not_eq_true', List.any_eq_false]
  intro x hx
  rw [(ln_code l c x hx).1]
  decide
theorem encB_1 {r : RqM} (h : r.k = 1) : encB r = putL (wu r.code) 2 ++ (putL r.ak.toNat 1 ++ (putL r.name.size 1 ++ r.name.data.toList)) := by unfold encB; rw [if_pos h]
theorem encB_4 {r : RqM} (h : r.k = 4 ∨ r.k = 9) : encB r = putL r.key.toNat 8 ++ poT r.L := by unfold encB; rw [if_neg (by omega), if_pos h]
theorem encB_5 {r : RqM} (h : r.k = 5) : encB r = putL r.key.toNat 8 ++ putL (wu r.ref) 4 := by unfold encB; rw [if_neg (by omega), if_neg (by omega), if_pos h]
theorem encB_6 {r : RqM} (h : r.k = 6) : encB r = putL r.key.toNat 8 ++ (putL (wu r.ref) 4 ++ putL (wu r.amt) 8) := by unfold encB; rw [if_neg (by omega), if_neg (by omega), if_neg (by omega), if_pos h]
theorem encB_7 {r : RqM} (h : r.k = 7 ∨ r.k = 8) : encB r = putL r.key.toNat 8 ++ (putL (wu r.amt) 8 ++ putL (wu r.code) 2) := by unfold encB; rw [if_neg (by omega), if_neg (by omega), if_neg (by omega), if_neg (by omega), if_pos h]
theorem encB_10 {r : RqM} (h : r.k = 10) : encB r = putL (wu r.n) 2 := by unfold encB; rw [if_neg (by omega), if_neg (by omega), if_neg (by omega), if_neg (by omega), if_neg (by omega), if_pos h]
theorem encB_11 {r : RqM} (h : r.k = 11 ∨ r.k = 12) : encB r = putL (wu r.n) 4 := by unfold encB; rw [if_neg (by omega), if_neg (by omega), if_neg (by omega), if_neg (by omega), if_neg (by omega), if_neg (by omega), if_pos h]
theorem encB_0 {r : RqM} (h : r.k = 2 ∨ r.k = 3 ∨ r.k = 13 ∨ r.k = 14) : encB r = [] := by unfold encB; rw [if_neg (by omega), if_neg (by omega), if_neg (by omega), if_neg (by omega), if_neg (by omega), if_neg (by omega), if_neg (by omega)]
theorem encOk_1 {r : RqM} (h : r.k = 1) : encOk r = (fit2 r.code && decide (r.name.size ≤ 255)) := by unfold encOk; rw [if_pos h]
theorem encOk_4 {r : RqM} (h : r.k = 4 ∨ r.k = 9) : encOk r = textOk r.L := by unfold encOk; rw [if_neg (by omega), if_pos h]
theorem encOk_5 {r : RqM} (h : r.k = 5 ∨ r.k = 6) : encOk r = fit4 r.ref := by unfold encOk; rw [if_neg (by omega), if_neg (by omega), if_pos h]
theorem encOk_7 {r : RqM} (h : r.k = 7 ∨ r.k = 8) : encOk r = fit2 r.code := by unfold encOk; rw [if_neg (by omega), if_neg (by omega), if_neg (by omega), if_pos h]
theorem encOk_10 {r : RqM} (h : r.k = 10) : encOk r = fit2 r.n := by unfold encOk; rw [if_neg (by omega), if_neg (by omega), if_neg (by omega), if_neg (by omega), if_pos h]
theorem encOk_11 {r : RqM} (h : r.k = 11 ∨ r.k = 12) : encOk r = fit4 r.n := by unfold encOk; rw [if_neg (by omega), if_neg (by omega), if_neg (by omega), if_neg (by omega), if_neg (by omega), if_pos h]
theorem encOk_0 {r : RqM} (h : r.k = 2 ∨ r.k = 3 ∨ r.k = 13 ∨ r.k = 14) : encOk r = true := by unfold encOk; rw [if_neg (by omega), if_neg (by omega), if_neg (by omega), if_neg (by omega), if_neg (by omega), if_neg (by omega)]; exact decide_eq_true (by omega)
theorem encOk_no {r : RqM} (h : r.k < 1 ∨ 14 < r.k) : encOk r = false := by unfold encOk; rw [if_neg (by omega), if_neg (by omega), if_neg (by omega), if_neg (by omega), if_neg (by omega), if_neg (by omega)]; exact decide_eq_false (by omega)
theorem lenOf_1 {l : List UInt8} (h : kd l = 1) : lenOf l = 5 + (l.getD 4 0).toNat := by unfold lenOf; rw [if_pos h]
theorem lenOf_4 {l : List UInt8} (h : kd l = 4 ∨ kd l = 9) : lenOf l = 10 + 10 * (l.getD 9 0).toNat := by unfold lenOf; rw [if_neg (by omega), if_pos h]
theorem lenOf_5 {l : List UInt8} (h : kd l = 5) : lenOf l = 13 := by unfold lenOf; rw [if_neg (by omega), if_neg (by omega), if_pos h]
theorem lenOf_6 {l : List UInt8} (h : kd l = 6) : lenOf l = 21 := by unfold lenOf; rw [if_neg (by omega), if_neg (by omega), if_neg (by omega), if_pos h]
theorem lenOf_7 {l : List UInt8} (h : kd l = 7 ∨ kd l = 8) : lenOf l = 19 := by unfold lenOf; rw [if_neg (by omega), if_neg (by omega), if_neg (by omega), if_neg (by omega), if_pos h]
theorem lenOf_10 {l : List UInt8} (h : kd l = 10) : lenOf l = 3 := by unfold lenOf; rw [if_neg (by omega), if_neg (by omega), if_neg (by omega), if_neg (by omega), if_neg (by omega), if_pos h]
theorem lenOf_11 {l : List UInt8} (h : kd l = 11 ∨ kd l = 12) : lenOf l = 5 := by unfold lenOf; rw [if_neg (by omega), if_neg (by omega), if_neg (by omega), if_neg (by omega), if_neg (by omega), if_neg (by omega), if_pos h]
theorem lenOf_0 {l : List UInt8} (h : kd l = 2 ∨ kd l = 3 ∨ kd l = 13 ∨ kd l = 14) : lenOf l = 1 := by unfold lenOf; rw [if_neg (by omega), if_neg (by omega), if_neg (by omega), if_neg (by omega), if_neg (by omega), if_neg (by omega), if_neg (by omega)]
/-- what the request of bytes has, kind by kind -/
theorem decR_k (l : List UInt8) : (decR l).k = (kd l : Int) := rfl
theorem decR_1 {l : List UInt8} (h : kd l = 1) : decR l = { rq0 with k := 1, ek := 1, code := fl l 1 2, ak := fl l 3 1, name := bs (l.drop 5) } := by unfold decR; simp only [h]; simp [rq0]
theorem decR_2 {l : List UInt8} (h : kd l = 2) : decR l = { rq0 with k := 2, ek := 2 } := by unfold decR; simp only [h]; simp [rq0]
theorem decR_3 {l : List UInt8} (h : kd l = 3) : decR l = { rq0 with k := 3, ek := 3 } := by unfold decR; simp only [h]; simp [rq0]
theorem decR_4 {l : List UInt8} (h : kd l = 4) : decR l = { rq0 with k := 4, ek := 4, key := fl l 1 8, L := readL (bs (l.drop 9)) (l.getD 9 0).toNat } := by unfold decR; simp only [h]; simp [rq0]
theorem decR_5 {l : List UInt8} (h : kd l = 5) : decR l = { rq0 with k := 5, ek := 5, key := fl l 1 8, ref := fl l 9 4 } := by unfold decR; simp only [h]; simp [rq0]
theorem decR_6 {l : List UInt8} (h : kd l = 6) : decR l = { rq0 with k := 6, ek := 6, key := fl l 1 8, ref := fl l 9 4, amt := wrap64 (fl l 13 8) } := by unfold decR; simp only [h]; simp [rq0]
theorem decR_7 {l : List UInt8} (h : kd l = 7) : decR l = { rq0 with k := 7, ek := 7, key := fl l 1 8, amt := wrap64 (fl l 9 8), code := fl l 17 2 } := by unfold decR; simp only [h]; simp [rq0]
theorem decR_8 {l : List UInt8} (h : kd l = 8) : decR l = { rq0 with k := 8, ek := 8, key := fl l 1 8, amt := wrap64 (fl l 9 8), code := fl l 17 2 } := by unfold decR; simp only [h]; simp [rq0]
theorem decR_9 {l : List UInt8} (h : kd l = 9) : decR l = { rq0 with k := 9, ek := 9, key := fl l 1 8, L := readL (bs (l.drop 9)) (l.getD 9 0).toNat } := by unfold decR; simp only [h]; simp [rq0]
theorem decR_10 {l : List UInt8} (h : kd l = 10) : decR l = { rq0 with k := 10, n := fl l 1 2 } := by unfold decR; simp only [h]; simp [rq0]
theorem decR_11 {l : List UInt8} (h : kd l = 11) : decR l = { rq0 with k := 11, n := fl l 1 4 } := by unfold decR; simp only [h]; simp [rq0]
theorem decR_12 {l : List UInt8} (h : kd l = 12) : decR l = { rq0 with k := 12, n := fl l 1 4 } := by unfold decR; simp only [h]; simp [rq0]
theorem decR_13 {l : List UInt8} (h : kd l = 13) : decR l = { rq0 with k := 13 } := by unfold decR; simp only [h]; simp [rq0]
theorem decR_14 {l : List UInt8} (h : kd l = 14) : decR l = { rq0 with k := 14 } := by unfold decR; simp only [h]; simp [rq0]
theorem kinds {l : List UInt8} (h1 : 1 ≤ kd l) (h2 : kd l ≤ 14) : kd l = 1 ∨ kd l = 2 ∨ kd l = 3 ∨ kd l = 4 ∨ kd l = 5 ∨ kd l = 6 ∨ kd l = 7 ∨ kd l = 8 ∨ kd l = 9 ∨ kd l = 10 ∨ kd l = 11 ∨ kd l = 12 ∨ kd l = 13 ∨ kd l = 14 := by omega
theorem fit2_fl (l : List UInt8) (o : Nat) : fit2 (fl l o 2 : Int) = true := decide_eq_true (by have := fl_lt l o 2; omega)
theorem fit4_fl (l : List UInt8) (o : Nat) : fit4 (fl l o 4 : Int) = true := decide_eq_true (by have := fl_lt l o 4; omega)
theorem wu_fl (l : List UInt8) (o w : Nat) (hw : w ≤ 8) : wu (fl l o w : Int) = fl l o w := wu_nat _ (Nat.lt_of_lt_of_le (fl_lt l o w) (Nat.le_trans (Nat.pow_le_pow_right (by decide) hw) (by decide)))
theorem wu_flw (l : List UInt8) (o w : Nat) (hw : w ≤ 8) : wu (wrap64 (fl l o w : Int)) = fl l o w := wu_wrap _ (Nat.lt_of_lt_of_le (fl_lt l o w) (Nat.le_trans (Nat.pow_le_pow_right (by decide) hw) (by decide)))
/-- bytes that are a request's are its bytes -/
theorem dec_enc (l : List UInt8) (h : decO l = true) : encOk (decR l) = true ∧ encT (decR l) = l := by
  obtain ⟨h1, hk1, hk2, hl, h8⟩ := of_decide_eq_true h
  have hf := first_byte l h1
  have all : l.take 1 ++ l.drop 1 = l := List.take_append_drop 1 l
  have he : encT (decR l) = l.take 1 ++ encB (decR l) := by
    unfold encT
    rw [← hf]
    rfl
  have hrest : encB (decR l) = l.drop 1 → encT (decR l) = l := fun e => by rw [he, e, all]
  have hend : ∀ o w, l.length = o + w → (l.drop o).take w = l.drop o := fun o w e => List.take_of_length_le (by rw [List.length_drop]; omega)
  have lines : ∀ (hc : l.length = 10 + 10 * (l.getD 9 0).toNat), putL (fl l 1 8) 8 ++ poT (readL (bs (l.drop 9)) (l.getD 9 0).toNat) = l.drop 1 := fun hc => by
    have h9 : ((l.drop 9).getD 0 0) = l.getD 9 0 := by simp [List.getD]
    have hd : (l.drop 9).length = 1 + 10 * (l.getD 9 0).toNat := by rw [List.length_drop]; omega
    rw [put_fl l 1 8 (by omega), po_put (l.drop 9) (l.getD 9 0).toNat (by omega) (by rw [h9])]
    rw [show (l.drop 9).take (1 + 10 * (l.getD 9 0).toNat) = l.drop 9 from List.take_of_length_le (by omega)]
    exact cut_here l 1 8
  rcases kinds hk1 hk2 with hk | hk | hk | hk | hk | hk | hk | hk | hk | hk | hk | hk | hk | hk
  · rw [lenOf_1 hk] at hl
    have hb := (l.getD 4 0).toNat_lt
    have hsz : (bs (l.drop 5)).size = (l.getD 4 0).toNat := by rw [bs_size, List.length_drop]; omega
    rw [decR_1 hk] at hrest ⊢
    refine ⟨?_, hrest ?_⟩
    · rw [encOk_1 rfl]; dsimp only; rw [fit2_fl, hsz, decide_eq_true (by omega)]; rfl
    · rw [encB_1 rfl]; dsimp only
      rw [hsz, wu_fl _ _ _ (by decide), put_fl _ _ _ (by omega), Int.toNat_natCast, put_fl _ _ _ (by omega), ← byte_fl l 4 (by omega), put_fl _ _ _ (by omega)]
      show _ ++ (_ ++ (_ ++ l.drop 5)) = _
      rw [cut_here l 4 1, cut_here l 3 1, cut_here l 1 2]
  · rw [lenOf_0 (by omega)] at hl
    rw [decR_2 hk] at hrest ⊢
    exact ⟨rfl, hrest (by rw [encB_0 (Or.inl rfl), List.drop_of_length_le (by omega)])⟩
  · rw [lenOf_0 (by omega)] at hl
    rw [decR_3 hk] at hrest ⊢
    exact ⟨rfl, hrest (by rw [encB_0 (Or.inr (Or.inl rfl)), List.drop_of_length_le (by omega)])⟩
  · rw [lenOf_4 (Or.inl hk)] at hl
    have hc := h8 (Or.inl hk)
    rw [decR_4 hk] at hrest ⊢
    refine ⟨by rw [encOk_4 (Or.inl rfl)]; exact read_ok _ _ hc, hrest ?_⟩
    rw [encB_4 (Or.inl rfl)]
    exact lines hl
  · rw [lenOf_5 hk] at hl
    rw [decR_5 hk] at hrest ⊢
    refine ⟨by rw [encOk_5 (Or.inl rfl)]; exact fit4_fl l 9, hrest ?_⟩
    rw [encB_5 rfl]; dsimp only
    rw [Int.toNat_natCast, put_fl _ _ _ (by omega), wu_fl _ _ _ (by decide), put_fl _ _ _ (by omega), hend 9 4 hl, cut_here l 1 8]
  · rw [lenOf_6 hk] at hl
    rw [decR_6 hk] at hrest ⊢
    refine ⟨by rw [encOk_5 (Or.inr rfl)]; exact fit4_fl l 9, hrest ?_⟩
    rw [encB_6 rfl]; dsimp only
    rw [Int.toNat_natCast, put_fl _ _ _ (by omega), wu_fl _ _ _ (by decide), put_fl _ _ _ (by omega), wu_flw _ _ _ (by decide), put_fl _ _ _ (by omega), hend 13 8 hl, cut_here l 9 4, cut_here l 1 8]
  · rw [lenOf_7 (Or.inl hk)] at hl
    rw [decR_7 hk] at hrest ⊢
    refine ⟨by rw [encOk_7 (Or.inl rfl)]; exact fit2_fl l 17, hrest ?_⟩
    rw [encB_7 (Or.inl rfl)]; dsimp only
    rw [Int.toNat_natCast, put_fl _ _ _ (by omega), wu_flw _ _ _ (by decide), put_fl _ _ _ (by omega), wu_fl _ _ _ (by decide), put_fl _ _ _ (by omega), hend 17 2 hl, cut_here l 9 8, cut_here l 1 8]
  · rw [lenOf_7 (Or.inr hk)] at hl
    rw [decR_8 hk] at hrest ⊢
    refine ⟨by rw [encOk_7 (Or.inr rfl)]; exact fit2_fl l 17, hrest ?_⟩
    rw [encB_7 (Or.inr rfl)]; dsimp only
    rw [Int.toNat_natCast, put_fl _ _ _ (by omega), wu_flw _ _ _ (by decide), put_fl _ _ _ (by omega), wu_fl _ _ _ (by decide), put_fl _ _ _ (by omega), hend 17 2 hl, cut_here l 9 8, cut_here l 1 8]
  · rw [lenOf_4 (Or.inr hk)] at hl
    have hc := h8 (Or.inr hk)
    rw [decR_9 hk] at hrest ⊢
    refine ⟨by rw [encOk_4 (Or.inr rfl)]; exact read_ok _ _ hc, hrest ?_⟩
    rw [encB_4 (Or.inr rfl)]
    exact lines hl
  · rw [lenOf_10 hk] at hl
    rw [decR_10 hk] at hrest ⊢
    refine ⟨by rw [encOk_10 rfl]; exact fit2_fl l 1, hrest ?_⟩
    rw [encB_10 rfl]; dsimp only
    rw [wu_fl _ _ _ (by decide), put_fl _ _ _ (by omega), hend 1 2 hl]
  · rw [lenOf_11 (Or.inl hk)] at hl
    rw [decR_11 hk] at hrest ⊢
    refine ⟨by rw [encOk_11 (Or.inl rfl)]; exact fit4_fl l 1, hrest ?_⟩
    rw [encB_11 (Or.inl rfl)]; dsimp only
    rw [wu_fl _ _ _ (by decide), put_fl _ _ _ (by omega), hend 1 4 hl]
  · rw [lenOf_11 (Or.inr hk)] at hl
    rw [decR_12 hk] at hrest ⊢
    refine ⟨by rw [encOk_11 (Or.inr rfl)]; exact fit4_fl l 1, hrest ?_⟩
    rw [encB_11 (Or.inr rfl)]; dsimp only
    rw [wu_fl _ _ _ (by decide), put_fl _ _ _ (by omega), hend 1 4 hl]
  · rw [lenOf_0 (by omega)] at hl
    rw [decR_13 hk] at hrest ⊢
    exact ⟨rfl, hrest (by rw [encB_0 (Or.inr (Or.inr (Or.inl rfl))), List.drop_of_length_le (by omega)])⟩
  · rw [lenOf_0 (by omega)] at hl
    rw [decR_14 hk] at hrest ⊢
    exact ⟨rfl, hrest (by rw [encB_0 (Or.inr (Or.inr (Or.inr rfl))), List.drop_of_length_le (by omega)])⟩
end Go.Proofs.Ytkbikflincjhhaa
