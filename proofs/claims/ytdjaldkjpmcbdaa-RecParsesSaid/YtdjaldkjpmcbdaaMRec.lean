/-
  Layer 19: records as lists of bytes (no walk here).
-/
import Derived.Test.YtdjaldkjpmcbdaaPolyT
import Derived.Test.YtdjaldkjpmcbdaaBld
import Derived.Test.YtdjaldkjpmcbdaaKitF
namespace Go.Proofs.Ytdjaldkjpmcbdaa
set_option linter.unusedSimpArgs false
set_option linter.unusedVariables false
open Go.RowKit

/-- a record: its kind and its body -/
abbrev Rc := UInt8 × List UInt8
def rc0 : Rc := (0, [])
def rcC (r : Rc) : List Value := [.int .u8 (r.1.toNat : Int), .string (bs r.2)]
theorem rcC_length (r : Rc) : (rcC r).length = 2 := rfl
def rightR (r : Rc) : Bool := decide (r.1 ≠ 0) && decide (r.2.length ≤ 2048)
def headR (r : Rc) : List UInt8 := putL r.2.length 2 ++ [r.1] ++ r.2
def recL (r : Rc) : List UInt8 := headR r ++ putL (cN (headR r)) 4
def frameL (L : List Rc) : List UInt8 := L.flatMap recL
theorem headR_length (r : Rc) : (headR r).length = 3 + r.2.length := by simp [headR, putL_length]; omega
theorem recL_length (r : Rc) : (recL r).length = 7 + r.2.length := by rw [recL, List.length_append, headR_length, putL_length]; omega
theorem frameL_snoc (L : List Rc) (r : Rc) : frameL (L ++ [r]) = frameL L ++ recL r := by simp [frameL]
theorem frameL_append (L M : List Rc) : frameL (L ++ M) = frameL L ++ frameL M := by simp [frameL]
theorem takeR_next (L : List Rc) (k : Nat) (h : k < L.length) : L.take (k + 1) = L.take k ++ [L.getD k rc0] := by
  rw [List.take_succ_eq_append_getElem h]; congr 2; simp [List.getD, h]
theorem frameL_next (L : List Rc) (k : Nat) (h : k < L.length) : frameL (L.take (k + 1)) = frameL (L.take k) ++ recL (L.getD k rc0) := by rw [takeR_next L k h, frameL_snoc]
theorem frameL_le (L : List Rc) (h : ∀ r ∈ L, rightR r = true) : (frameL L).length ≤ L.length * 2055 := by
  induction L with
  | nil => simp [frameL]
  | cons r L ih =>
    have h1 := h r (by simp)
    have h2 := ih fun x hx => h x (by simp [hx])
    simp only [rightR, Bool.and_eq_true, decide_eq_true_eq] at h1
    have e : frameL (r :: L) = recL r ++ frameL L := by simp [frameL]
    rw [e, List.length_append, recL_length, List.length_cons]
    omega
theorem putL_one (k : UInt8) : putL k.toNat 1 = [k] := by
  show [UInt8.ofNat _] = _
  simp
/-! reading -/
def lenR (s : List UInt8) : Nat := getN (s.take 2)
def kindR (s : List UInt8) : UInt8 := s.getD 2 0
def fitR (s : List UInt8) : Prop := 7 ≤ s.length ∧ kindR s ≠ 0 ∧ lenR s ≤ 2048 ∧ 7 + lenR s ≤ s.length
instance (s : List UInt8) : Decidable (fitR s) := by unfold fitR; infer_instance
def sumOk (s : List UInt8) : Prop := putL (cN (s.take (3 + lenR s))) 4 = (s.drop (3 + lenR s)).take 4
instance (s : List UInt8) : Decidable (sumOk s) := by unfold sumOk; infer_instance
def errR (s : List UInt8) : Int := if fitR s then (if sumOk s then 0 else 5) else 4
def firstR (s : List UInt8) : Rc := (kindR s, (s.drop 3).take (lenR s))
def restR (s : List UInt8) : List UInt8 := s.drop (7 + lenR s)
theorem restR_lt (s : List UInt8) (h : s ≠ []) : (restR s).length < s.length := by
  have : 0 < s.length := List.length_pos_iff.2 h
  unfold restR
  rw [List.length_drop]
  omega
theorem errR_fit (s : List UInt8) (h : errR s = 0) : fitR s ∧ sumOk s := by
  unfold errR at h
  split at h
  · split at h
    · exact ⟨‹_›, ‹_›⟩
    · cases h
  · cases h
theorem firstR_len (s : List UInt8) (h : fitR s) : (firstR s).2.length = lenR s := by
  obtain ⟨h1, h2, h3, h4⟩ := h
  simp [firstR]; omega
theorem firstR_right (s : List UInt8) (h : fitR s) : rightR (firstR s) = true := by
  have h1 := firstR_len s h
  obtain ⟨-, h2, h3, -⟩ := h
  unfold rightR
  rw [h1, decide_eq_true h3, Bool.and_true]
  exact decide_eq_true h2
/-- the records of bytes, or an error -/
def parseP (s : List UInt8) : Except Int (List Rc) :=
  if h : s = [] then .ok [] else if errR s = 0 then (parseP (restR s)).map (fun l => firstR s :: l) else .error (errR s)
termination_by s.length
decreasing_by exact restR_lt s h
theorem parseP_nil : parseP [] = .ok [] := by rw [parseP, dif_pos rfl]
theorem parseP_step (s : List UInt8) (h : s ≠ []) (h0 : errR s = 0) : parseP s = (parseP (restR s)).map (fun l => firstR s :: l) := by rw [parseP, dif_neg h, if_pos h0]
theorem parseP_err (s : List UInt8) (h : s ≠ []) (h0 : ¬ errR s = 0) : parseP s = .error (errR s) := by rw [parseP, dif_neg h, if_neg h0]
theorem two_of {l : List UInt8} (h : l.length = 2) : ∃ x y, l = [x, y] := by
  match l, h with
  | [x, y], _ => exact ⟨x, y, rfl⟩
/-- the first record of a record's bytes is it -/
theorem recL_first (r : Rc) (t : List UInt8) (hr : rightR r = true) : errR (recL r ++ t) = 0 ∧ firstR (recL r ++ t) = r ∧ restR (recL r ++ t) = t := by
  simp only [rightR, Bool.and_eq_true, decide_eq_true_eq] at hr
  obtain ⟨hk, hb⟩ := hr
  have hrl := recL_length r
  have hhl := headR_length r
  have hlen : lenR (recL r ++ t) = r.2.length := by
    unfold lenR recL headR
    rw [List.append_assoc, List.append_assoc, List.append_assoc, List.take_append_of_le_length (by rw [putL_length]; omega), List.take_of_length_le (by rw [putL_length]; omega), getN_putL]
    exact Nat.mod_eq_of_lt (by omega)
  have hkind : kindR (recL r ++ t) = r.1 := by
    unfold kindR recL headR
    obtain ⟨x, y, hp⟩ := two_of (putL_length 2 r.2.length)
    rw [hp]
    rfl
  have hbody : ((recL r ++ t).drop 3).take r.2.length = r.2 := by
    unfold recL headR
    obtain ⟨x, y, hp⟩ := two_of (putL_length 2 r.2.length)
    rw [hp]
    simp
  have hhead : (recL r ++ t).take (3 + r.2.length) = headR r := by
    unfold recL
    rw [List.append_assoc, ← hhl, List.take_left]
  have htail : ((recL r ++ t).drop (3 + r.2.length)).take 4 = putL (cN (headR r)) 4 := by
    unfold recL
    rw [List.append_assoc, ← hhl, List.drop_left, List.take_append_of_le_length (by rw [putL_length]; omega), List.take_of_length_le (by rw [putL_length]; omega)]
  have hfit : fitR (recL r ++ t) := by
    refine ⟨by rw [List.length_append]; omega, by rw [hkind]; exact hk, by rw [hlen]; exact hb, by rw [hlen, List.length_append]; omega⟩
  refine ⟨?_, ?_, ?_⟩
  · unfold errR
    rw [if_pos hfit, if_pos]
    unfold sumOk
    rw [hlen, hhead, htail]
  · unfold firstR
    rw [hkind, hlen, hbody]
  · unfold restR
    rw [hlen, ← hrl, List.drop_left]
theorem parseP_frame (L : List Rc) (t : List UInt8) (h : ∀ r ∈ L, rightR r = true) : parseP (frameL L ++ t) = (parseP t).map (fun l => L ++ l) := by
  induction L with
  | nil => simp [frameL]; cases parseP t <;> rfl
  | cons r L ih =>
    have e : frameL (r :: L) ++ t = recL r ++ (frameL L ++ t) := by simp [frameL]
    obtain ⟨h0, h1, h2⟩ := recL_first r (frameL L ++ t) (h r (by simp))
    have hne : recL r ++ (frameL L ++ t) ≠ [] := by
      intro hh
      have := congrArg List.length hh
      rw [List.length_append, recL_length, List.length_nil] at this
      omega
    rw [e, parseP_step _ hne h0, h1, h2, ih fun x hx => h x (by simp [hx])]
    cases parseP t <;> rfl
end Go.Proofs.Ytdjaldkjpmcbdaa
