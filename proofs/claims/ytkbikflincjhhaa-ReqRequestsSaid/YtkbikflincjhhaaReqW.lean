/-
  A writer by what it wrote, if all of it may be.
-/
import Derived.Test.YtkbikflincjhhaaPoW
namespace Go.Proofs.Ytkbikflincjhhaa
set_option linter.unusedSimpArgs false
set_option linter.unusedVariables false
open Go.RowKit Go.WideShapes Go.ChangeShapes Go.ChangeAt Go.Deep
def WKeep : List TypeId := [5, 84]
/-- a writer at q: what it wrote is T, if all of it may be -/
def WQ (W : World) (B q : Nat) (ok : Bool) (T : List UInt8) (m : Nat) : Prop := ∃ l, WrAt W B q l (!ok) ∧ (ok = true → l = T) ∧ l.length ≤ m
theorem WQ.new {w : World} {B : Nat} (hB : B ≤ w.heap.size) : WQ (w.alloc (.cells #[.slice none 0 0, .bool false] 84)) B w.heap.size true [] 0 :=
  ⟨[], ⟨none, 0, heap_new _ _, ⟨rfl, .inl ⟨rfl, rfl⟩⟩⟩, fun _ => rfl, Nat.le_refl _⟩
theorem WQ.below {W W' : World} {B q : Nat} {ok : Bool} {T : List UInt8} {m : Nat} (h : WQ W B q ok T m) (hb : Below W.heap.size W W') : WQ W' B q ok T m := by
  obtain ⟨l, h1, h2⟩ := h
  exact ⟨l, h1.below hb, h2⟩
theorem WQ.drew {W : World} {B q : Nat} {ok : Bool} {T : List UInt8} {m : Nat} (h : WQ W B q ok T m) : WQ W.drew B q ok T m := h
theorem WQ.lt {W : World} {B q : Nat} {ok : Bool} {T : List UInt8} {m : Nat} (h : WQ W B q ok T m) : q < W.heap.size := by
  obtain ⟨l, ⟨a, c, h1, -⟩, -⟩ := h
  exact heap_lt h1
def WQIs (B q : Nat) (ok : Bool) (T : List UInt8) (m : Nat) (W : World) (e : Ending) (w' : World) : Prop := e = .returned (.pointer (some ⟨q, 0, none⟩)) ∧ WQ w' B q ok T m ∧ Below B W w' ∧ KeepsT WKeep W w'
theorem wr_step {l T x : List UInt8} {ok f : Bool} {m k : Nat} (h : ok = true → l = T) (hl : l.length ≤ m) (hx : f = true → x.length ≤ k) : (wrB (!ok) f = !(ok && f)) ∧ ((ok && f) = true → wrL l x (!ok) f = T ++ x) ∧ (wrL l x (!ok) f).length ≤ m + k := by
  cases ok <;> cases f
  · exact ⟨rfl, (fun h => by cases h), by show l.length ≤ _; omega⟩
  · exact ⟨rfl, (fun h => by cases h), by show l.length ≤ _; omega⟩
  · exact ⟨rfl, (fun h => by cases h), by show l.length ≤ _; omega⟩
  · refine ⟨rfl, fun _ => ?_, ?_⟩
    · show l ++ x = _; rw [h rfl]
    · show (l ++ x).length ≤ _; rw [List.length_append]; have := hx rfl; omega
theorem wq_number (B q : Nat) (ok : Bool) (T : List UInt8) (m : Nat) (hm : m ≤ 80000000) (n : Int) (n0 : 0 ≤ n) (n1 : n ≤ 18446744073709551615) (wd : Int) (W : World) (h : WQ W B q ok T m) (hB : B ≤ q) :
    Calls Try.prog 18 #[.pointer (some ⟨q, 0, none⟩), .int .u64 n, .int .i64 wd] W (WQIs B q (ok && fitsB n.toNat wd) (T ++ putS n wd) (m + 8) W) := by
  obtain ⟨l, h1, h2, h3⟩ := h
  obtain ⟨s1, s2, s3⟩ := wr_step (x := putS n wd) (f := fitsB n.toNat wd) (k := 8) h2 h3 (fun _ => putS_le n wd)
  exact (wnumber_k B q l (!ok) (by omega) n n0 n1 wd W h1 hB).mono fun e w' ⟨he, hw, hb, hk⟩ => ⟨he, ⟨_, by rw [← s1]; exact hw, s2, s3⟩, hb, hk⟩
theorem wq_signed (B q : Nat) (ok : Bool) (T : List UInt8) (m : Nat) (hm : m ≤ 80000000) (n : Int) (hn : inR n) (W : World) (h : WQ W B q ok T m) (hB : B ≤ q) :
    Calls Try.prog 39 #[.pointer (some ⟨q, 0, none⟩), .int .i64 n] W (WQIs B q ok (T ++ putL (IntKind.u64.wrap n).toNat 8) (m + 8) W) := by
  obtain ⟨l, h1, h2, h3⟩ := h
  obtain ⟨s1, s2, s3⟩ := wr_step (x := putS (IntKind.u64.wrap n) 8) (f := true) (k := 8) h2 h3 (fun _ => putS_le _ 8)
  have he : putS (IntKind.u64.wrap n) 8 = putL (IntKind.u64.wrap n).toNat 8 := by unfold putS; rw [if_pos (by decide)]; rfl
  rw [Bool.and_true] at s1 s2
  exact (wsigned_k B q l (!ok) (by omega) n hn.1 hn.2 W h1 hB).mono fun e w' ⟨h0, hw, hb, hk⟩ => ⟨h0, ⟨_, by rw [← s1, ← fits8 n]; exact hw, by rw [fits8, ← he]; exact s2, by rw [fits8]; exact s3⟩, hb, hk⟩
theorem wq_text (B q : Nat) (ok : Bool) (T : List UInt8) (m : Nat) (hm : m ≤ 80000000) (s : ByteArray) (hs : s.size ≤ 9223372036854775807) (W : World) (h : WQ W B q ok T m) (hB : B ≤ q) :
    Calls Try.prog 37 #[.pointer (some ⟨q, 0, none⟩), .string s] W (WQIs B q (ok && decide (s.size ≤ 255)) (T ++ (putL s.size 1 ++ s.data.toList)) (m + 263) W) := by
  obtain ⟨l, h1, h2, h3⟩ := h
  have hpl := putS_le (s.size : Int) 1
  obtain ⟨s1, s2, s3⟩ := wr_step (x := putS (s.size : Int) 1 ++ s.data.toList) (f := decide (s.size ≤ 255)) (k := 263) h2 h3 (fun hf => by rw [List.length_append, size_list]; have := of_decide_eq_true hf; omega)
  have he : putS (s.size : Int) 1 = putL s.size 1 := by unfold putS; rw [if_pos (by decide), Int.toNat_natCast]; rfl
  exact (wtext_k B q l (!ok) (by omega) s hs W h1 hB).mono fun e w' ⟨h0, hw, hb, hk⟩ => ⟨h0, ⟨_, by rw [← s1]; exact hw, by rw [← he]; exact s2, s3⟩, hb, hk⟩
def WQEnd (B q : Nat) (ok : Bool) (T : List UInt8) (m : Nat) (W : World) (e : Ending) (w' : World) : Prop := e = .returned (.tuple #[]) ∧ WQ w' B q ok T m ∧ Below B W w'
theorem wq_post (L : List LnM) (hL : L.length ≤ 20) (hok : ∀ x ∈ L, LnOk x) (a : Option Addr) (cap q : Nat) (w0 w : World) (hin : LnIn w0 a L) (hlow : Below w0.heap.size w0 w) (ok : Bool) (T : List UInt8) (m : Nat) (hm : m ≤ 1000) (h : WQ w w0.heap.size q ok T m) (hB : w0.heap.size ≤ q) :
    Calls Try.prog 38 #[.slice a L.length cap, .pointer (some ⟨q, 0, none⟩)] w fun e w' => e = .returned (.tuple #[]) ∧ WQ w' w0.heap.size q (ok && textOk L) (T ++ poT L) (m + 400) ∧ Below w0.heap.size w0 w' := by
  obtain ⟨l, h1, h2, h3⟩ := h
  refine (pwrite_from l (by omega) (!ok) L hL hok a cap q w0 w hin hlow h1 hB).mono fun e w' ⟨h0, l', hw, ht, hl, hb⟩ => ⟨h0, ⟨l', ?_, fun hk => ?_, by omega⟩, hb⟩
  · rw [show (!(ok && textOk L)) = (!ok || !textOk L) by cases ok <;> cases textOk L <;> rfl]; exact hw
  · rw [Bool.and_eq_true] at hk
    rw [ht (by rw [hk.1]; rfl) hk.2, h2 hk.1]
def outS (ok : Bool) (T : List UInt8) : ByteArray := if ok = true then bs T else ⟨#[]⟩
def outE (ok : Bool) : Int := if ok = true then 0 else 2
theorem wq_bytes (B q : Nat) (ok : Bool) (T : List UInt8) (m : Nat) (W : World) (h : WQ W B q ok T m) :
    Calls Try.prog 21 #[.pointer (some ⟨q, 0, none⟩)] W fun e w' => e = .returned (.tuple #[.string (outS ok T), .int .i64 (outE ok)]) ∧ W = w' := by
  obtain ⟨l, h1, h2, -⟩ := h
  refine (wbytes_any B q l (!ok) W h1).mono fun e w' ⟨h0, hw⟩ => ⟨?_, hw⟩
  cases ok with
  | false => exact h0
  | true => rw [h0, h2 rfl]; rfl
end Go.Proofs.Ytkbikflincjhhaa
