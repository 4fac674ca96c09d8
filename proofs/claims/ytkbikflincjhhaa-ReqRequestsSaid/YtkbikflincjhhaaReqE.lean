/-
  Layer 28: the document's Encode.
-/
import Derived.Test.YtkbikflincjhhaaReqA

namespace Go.Proofs.Ytkbikflincjhhaa
set_option linter.unusedSimpArgs false
set_option linter.unusedVariables false
open Go.RowKit Go.WideShapes Go.ChangeShapes Go.ChangeAt Go.Deep
def rencS (r : RqM) : ByteArray := if encOk r = true then bs (encT r) else ⟨#[]⟩
def RqEIs (r : RqM) (w : World) (e : Ending) (w' : World) : Prop := e = .returned (.tuple #[.string (rencS r), .bool (encOk r)]) ∧ Below w.heap.size w w'
theorem renc_end {r : RqM} {ok : Bool} {T : List UInt8} {w W : World} (h1 : encOk r = ok) (h2 : encT r = T) (hb : Below w.heap.size w W) : RqEIs r w (.returned (.tuple #[.string (outS ok T), .bool ok])) W := by
  subst h1; subst h2
  exact ⟨rfl, hb⟩
theorem renc_no {r : RqM} {w W : World} (h1 : encOk r = false) (hb : Below w.heap.size w W) : RqEIs r w (.returned (.tuple #[.string ⟨#[]⟩, .bool false])) W :=
  ⟨by unfold rencS; rw [h1]; rfl, hb⟩
theorem bs_app (a b : List UInt8) : bs a ++ bs b = bs (a ++ b) := by
  apply ByteArray.ext
  show (bs a ++ bs b).data = _
  rw [ByteArray.data_append]
  simp [bs]
theorem txt_small {T : List UInt8} {L : List LnM} {k : Nat} {key : Nat} (h : putL k 1 ++ putL key 8 = T) (hL : L.length ≤ 20) : ¬ 9223372036854775807 < (outS true T).size + (txtS L).size := by
  subst h
  have h1 : (outS true (putL k 1 ++ putL key 8)).size = 9 := by
    show (bs _).size = 9
    rw [bs_size, List.length_append, putL_length, putL_length]
  have h2 : (txtS L).size ≤ 201 := by
    unfold txtS
    split
    · rw [bs_size, poT_length]; omega
    · show 0 ≤ 201; omega
  omega
theorem renc_cat {r : RqM} {T : List UInt8} {L : List LnM} {w W : World} (h1 : encOk r = true) (h2 : encT r = T ++ poT L) (h3 : textOk L = true) (hb : Below w.heap.size w W) : RqEIs r w (.returned (.tuple #[.string (outS true T ++ txtS L), .bool true])) W := by
  refine ⟨?_, hb⟩
  unfold rencS txtS outS
  rw [h1, if_pos rfl, if_pos rfl, if_pos h3, h2, bs_app]
/-- the request's box, and all of the caller's as it was -/
structure DQ (w W : World) (C : Array Value) : Prop where
  box : W.heap[w.heap.size]? = some (.cells C 42 (0, 0))
  low : Below (w.heap.size + 1) (w.alloc (.cells C 42)) W
theorem DQ.new (w : World) (C : Array Value) : DQ w (w.alloc (.cells C 42)) C := ⟨heap_new _ _, Below.refl _ _⟩
theorem alloc_size (w : World) (C : Array Value) (t : TypeId) : (w.alloc (.cells C t)).heap.size = w.heap.size + 1 := Array.size_push ..
theorem DQ.size {w W : World} {C : Array Value} (h : DQ w W C) : w.heap.size + 1 ≤ W.heap.size := by have := h.low.size; rw [alloc_size] at this; exact this
theorem DQ.of {w W : World} {C : Array Value} (h : Below (w.heap.size + 1) (w.alloc (.cells C 42)) W) : DQ w W C :=
  ⟨(h.block w.heap.size (Nat.lt_succ_self _)).trans (heap_new _ _), h⟩
theorem DQ.to {w W W' : World} {C : Array Value} (h : DQ w W C) (hb : Below W.heap.size W W') : DQ w W' C := DQ.of (h.low.trans (hb.mono h.size))
theorem DQ.below {w W : World} {C : Array Value} (h : DQ w W C) : Below w.heap.size w W := ((Below.refl w.heap.size w).alloc (Nat.le_refl _) _).trans (h.low.mono (Nat.le_succ _))
theorem row_new (w : World) (B : Nat) (hB : B ≤ w.heap.size) (x : Fld) : (w.alloc (.cells (fc x).toArray 89)).ownsRow B 89 4 (.slice (some ⟨w.heap.size, 0, none⟩) 1 1) 1 ([x].flatMap fc) :=
  ⟨rfl, .inr ⟨w.heap.size, 1, _, rfl, hB, heap_new _ _, Nat.le_refl _, by unfold maxLen; omega, by simp [fc], by simp [fc]⟩⟩
theorem flds_at {w : World} {B c : Nat} {a : Option Addr} {m : List Fld} {k : Nat} (hk : m.length = k) (h : w.ownsRow B 89 4 (.slice a k c) k (m.flatMap fc)) : FldsAt w w.heap.size a m := by
  subst hk
  exact fun i hi => by
    obtain ⟨g, h1, _, h3, h4⟩ := owns_rows fc fc_length fld0 h i hi
    exact ⟨g, h1, h3, h4⟩
theorem head_t {r : RqM} (k : Nat) (T : List UInt8) (h : encB r = T) (hk : r.k = k) : encT r = putL k 1 ++ T := by unfold encT; rw [h, hk]; rfl
variable {ek0 : Int}
set_option maxRecDepth 100000 in
set_option maxHeartbeats 1000000 in
theorem renc_1 (key ref amt code ak : Int) (name : ByteArray) (L : List LnM) (n : Int) (hr : RqOk ⟨1, ek0, key, ref, amt, code, ak, name, L, n⟩) (hn : name.size ≤ 300) (a : Option Addr) (cap : Nat) (w : World) (hin : LnIn w a L) :
    Calls Try.prog 9 #[.agg #[.int .u8 1, .int .i64 code, .int .u8 ak, .string name, .int .u64 key, .int .i64 ref, .int .i64 amt, .int .i64 n, .slice a L.length cap]] w (RqEIs ⟨1, ek0, key, ref, amt, code, ak, name, L, n⟩ w) := by
  obtain ⟨i0, hi, hz0, hz1, hz2⟩ := info_parts (show (Try.prog.info? 89).map (fun i => (i.zero, i.size, i.bytes)) = some (some (.agg #[.int .i64 0, .int .i64 0, .int .u64 0, .string ⟨#[]⟩]), 4, 40) by kernel_rfl)
  have HI := hide hi
  have HZ0 := hide hz0
  have HZ1 := hide hz1
  have HZ2 := hide hz2
  have HR := hide hr
  have HIN := hide hin
  have H0 := fq_kind 1 (by decide)
  obtain ⟨ok, hok⟩ : ∃ ok, encOk ⟨1, ek0, key, ref, amt, code, ak, name, L, n⟩ = ok := ⟨_, rfl⟩
  obtain ⟨T, hT⟩ : ∃ T, encT ⟨1, ek0, key, ref, amt, code, ak, name, L, n⟩ = T := ⟨_, rfl⟩
  have HEO := hide hok
  have HEB := hide hT
  have HFQ := hide (show FQ [⟨0, 1, 1, ⟨#[]⟩⟩, ⟨0, 2, (IntKind.u64.wrap code), ⟨#[]⟩⟩, ⟨0, 1, ak, ⟨#[]⟩⟩, ⟨2, 0, 0, name⟩] ok T from FQ.cast (((H0.num2 code HR.out.code).num1 ak HR.out.ak).str name (by omega)) (show _ = ok from by rw [← hok, encOk_1 rfl]; (try simp only [Bool.true_and])) (show _ = T from by rw [← hT, head_t (r := ⟨1, ek0, key, ref, amt, code, ak, name, L, n⟩) 1 _ (encB_1 rfl) rfl]; (try simp only [List.append_assoc, List.append_nil]); (try rfl)))
  have hua : IntKind.u64.wrap ak = ak := by rw [IntKind.wrap_u64]; have := HR.out.ak; dsimp only at this; omega
  clear hi hz0 hz1 hz2 H0 hr hin hn hT hok
  have D0 := hide (DQ.new w #[.int .u8 1, .int .i64 code, .int .u8 ak, .string name, .int .u64 key, .int .i64 ref, .int .i64 amt, .int .i64 n, .slice a L.length cap])
  have e0 := cell_of_block D0.out.box 0
  go_enter Try.func9, Try.ntmps9
  go_wp2_with fail
  refine (rnum_any 1 1 _).mono ?_
  rintro e v0 ⟨rfl, hb⟩
  have DN := hide (D0.out.to hb)
  have hal := (Below.refl v0.heap.size v0).alloc (Nat.le_refl _) (.cells (fc ⟨0, 1, 1, ⟨#[]⟩⟩).toArray 89)
  have OW0 := hide (row_new v0 (w.heap.size + 1) DN.out.size ⟨0, 1, 1, ⟨#[]⟩⟩)
  have DX0 := hide (DN.out.to hal)
  clear D0 DN hb hal e0
  go_upto_region 4 with (fail)
  dsimp only [fc] at OW0 DX0
  generalize v0.alloc (.cells #[.int .i64 0, .int .i64 1, .int .u64 1, .string ⟨#[]⟩] 89) = W0 at *
  generalize v0.heap.size = q0 at *
  have e0 := cell_of_block DX0.out.box 0
  have e1 := cell_of_block DX0.out.box 1
  go_wp2_with fail
  refine (rnum_any ((IntKind.u64.wrap code)) 2 _).mono ?_
  rintro e v1 ⟨rfl, hb⟩
  have OV := hide (owns_below OW0.out hb)
  have DV := hide (DX0.out.to hb)
  clear hb OW0 DX0
  have hal := (Below.refl v1.heap.size v1).alloc (Nat.le_refl _) (.cells #[.int .i64 0, .int .i64 2, .int .u64 (IntKind.u64.wrap code), .string ⟨#[]⟩] 89)
  have HA := hide (owns_below OV.out hal)
  have DA := hide (DV.out.to hal)
  have hw5 : w.heap.size + 1 ≤ (v1.alloc (.cells #[.int .i64 0, .int .i64 2, .int .u64 (IntKind.u64.wrap code), .string ⟨#[]⟩] 89)).heap.size := DA.out.size
  have HNEW := hide (heap_new v1 (.cells #[.int .i64 0, .int .i64 2, .int .u64 (IntKind.u64.wrap code), .string ⟨#[]⟩] 89))
  clear hal OV DV
  go_wp2_with (at_builtin; refine wpList_append_own2 _ rfl _ _ 91 rfl (w.heap.size + 1) 89 i0 (.agg #[.int .i64 0, .int .i64 0, .int .u64 0, .string ⟨#[]⟩]) 4 40 Try.underlying91 HI.out HZ0.out HZ1.out HZ2.out rfl (by decide) (.slice (some ⟨q0, 0, none⟩) 1 1) 1 (List.flatMap fc [⟨0, 1, 1, ⟨#[]⟩⟩]) rfl HA.out ⟨v1.heap.size, 0, none⟩ 1 1 (by decide) (fc ⟨0, 2, (IntKind.u64.wrap code), ⟨#[]⟩⟩) rfl rfl (cells_new HNEW.out) (fc_one _) (by unfold maxLen; omega) (by omega) hw5 ?_; intro g0 c0 W1 ho hgr hnil; have OW1 := hide (show W1.ownsRow (w.heap.size + 1) 89 4 (.slice (some ⟨g0, 0, none⟩) 2 c0) 2 (List.flatMap fc [⟨0, 1, 1, ⟨#[]⟩⟩, ⟨0, 2, (IntKind.u64.wrap code), ⟨#[]⟩⟩]) from by rw [show (List.flatMap fc [⟨0, 1, 1, ⟨#[]⟩⟩, ⟨0, 2, (IntKind.u64.wrap code), ⟨#[]⟩⟩]) = List.flatMap fc [⟨0, 1, 1, ⟨#[]⟩⟩] ++ fc ⟨0, 2, (IntKind.u64.wrap code), ⟨#[]⟩⟩ from by simp [List.flatMap_cons, List.append_assoc]]; exact ho); have DX1 := hide (DQ.of (DA.out.low.grown hgr DA.out.size (fun jj h => (HA.out.lt jj h).1))); clear ho hgr hnil; have e0 := cell_of_block DX1.out.box 0; have e2 := cell_of_block DX1.out.box 2)
  clear HA DA HNEW hw5
  refine (rnum_any (ak) 1 _).mono ?_
  rintro e v2 ⟨rfl, hb⟩
  have OV := hide (owns_below OW1.out hb)
  have DV := hide (DX1.out.to hb)
  clear hb OW1 DX1
  have hal := (Below.refl v2.heap.size v2).alloc (Nat.le_refl _) (.cells #[.int .i64 0, .int .i64 1, .int .u64 ak, .string ⟨#[]⟩] 89)
  have HA := hide (owns_below OV.out hal)
  have DA := hide (DV.out.to hal)
  have hw5 : w.heap.size + 1 ≤ (v2.alloc (.cells #[.int .i64 0, .int .i64 1, .int .u64 ak, .string ⟨#[]⟩] 89)).heap.size := DA.out.size
  have HNEW := hide (heap_new v2 (.cells #[.int .i64 0, .int .i64 1, .int .u64 ak, .string ⟨#[]⟩] 89))
  clear hal OV DV
  go_upto_region 8 with (at_builtin; refine wpList_append_own2 _ rfl _ _ 91 rfl (w.heap.size + 1) 89 i0 (.agg #[.int .i64 0, .int .i64 0, .int .u64 0, .string ⟨#[]⟩]) 4 40 Try.underlying91 HI.out HZ0.out HZ1.out HZ2.out rfl (by decide) (.slice (some ⟨g0, 0, none⟩) 2 c0) 2 (List.flatMap fc [⟨0, 1, 1, ⟨#[]⟩⟩, ⟨0, 2, (IntKind.u64.wrap code), ⟨#[]⟩⟩]) rfl HA.out ⟨v2.heap.size, 0, none⟩ 1 1 (by decide) (fc ⟨0, 1, ak, ⟨#[]⟩⟩) rfl rfl (cells_new HNEW.out) (fc_one _) (by unfold maxLen; omega) (by omega) hw5 ?_; intro g1 c1 W2 ho hgr hnil; have OW2 := hide (show W2.ownsRow (w.heap.size + 1) 89 4 (.slice (some ⟨g1, 0, none⟩) 3 c1) 3 (List.flatMap fc [⟨0, 1, 1, ⟨#[]⟩⟩, ⟨0, 2, (IntKind.u64.wrap code), ⟨#[]⟩⟩, ⟨0, 1, ak, ⟨#[]⟩⟩]) from by rw [show (List.flatMap fc [⟨0, 1, 1, ⟨#[]⟩⟩, ⟨0, 2, (IntKind.u64.wrap code), ⟨#[]⟩⟩, ⟨0, 1, ak, ⟨#[]⟩⟩]) = List.flatMap fc [⟨0, 1, 1, ⟨#[]⟩⟩, ⟨0, 2, (IntKind.u64.wrap code), ⟨#[]⟩⟩] ++ fc ⟨0, 1, ak, ⟨#[]⟩⟩ from by simp [List.flatMap_cons, List.append_assoc]]; exact ho); have DX2 := hide (DQ.of (DA.out.low.grown hgr DA.out.size (fun jj h => (HA.out.lt jj h).1))); clear ho hgr hnil; have e0 := cell_of_block DX2.out.box 0; have e3 := cell_of_block DX2.out.box 3)
  clear HA DA HNEW hw5
  have OV := hide OW2.out
  have DV := hide DX2.out
  clear OW2 DX2
  have hal := (Below.refl W2.heap.size W2).alloc (Nat.le_refl _) (.cells #[.int .i64 2, .int .i64 0, .int .u64 0, .string name] 89)
  have HA := hide (owns_below OV.out hal)
  have DA := hide (DV.out.to hal)
  have hw5 : w.heap.size + 1 ≤ (W2.alloc (.cells #[.int .i64 2, .int .i64 0, .int .u64 0, .string name] 89)).heap.size := DA.out.size
  have HNEW := hide (heap_new W2 (.cells #[.int .i64 2, .int .i64 0, .int .u64 0, .string name] 89))
  clear hal OV DV
  go_wp2_with (at_builtin; refine wpList_append_own2 _ rfl _ _ 91 rfl (w.heap.size + 1) 89 i0 (.agg #[.int .i64 0, .int .i64 0, .int .u64 0, .string ⟨#[]⟩]) 4 40 Try.underlying91 HI.out HZ0.out HZ1.out HZ2.out rfl (by decide) (.slice (some ⟨g1, 0, none⟩) 3 c1) 3 (List.flatMap fc [⟨0, 1, 1, ⟨#[]⟩⟩, ⟨0, 2, (IntKind.u64.wrap code), ⟨#[]⟩⟩, ⟨0, 1, ak, ⟨#[]⟩⟩]) rfl HA.out ⟨W2.heap.size, 0, none⟩ 1 1 (by decide) (fc ⟨2, 0, 0, name⟩) rfl rfl (cells_new HNEW.out) (fc_one _) (by unfold maxLen; omega) (by omega) hw5 ?_; intro g2 c2 W3 ho hgr hnil; have OW3 := hide (show W3.ownsRow (w.heap.size + 1) 89 4 (.slice (some ⟨g2, 0, none⟩) 4 c2) 4 (List.flatMap fc [⟨0, 1, 1, ⟨#[]⟩⟩, ⟨0, 2, (IntKind.u64.wrap code), ⟨#[]⟩⟩, ⟨0, 1, ak, ⟨#[]⟩⟩, ⟨2, 0, 0, name⟩]) from by rw [show (List.flatMap fc [⟨0, 1, 1, ⟨#[]⟩⟩, ⟨0, 2, (IntKind.u64.wrap code), ⟨#[]⟩⟩, ⟨0, 1, ak, ⟨#[]⟩⟩, ⟨2, 0, 0, name⟩]) = List.flatMap fc [⟨0, 1, 1, ⟨#[]⟩⟩, ⟨0, 2, (IntKind.u64.wrap code), ⟨#[]⟩⟩, ⟨0, 1, ak, ⟨#[]⟩⟩] ++ fc ⟨2, 0, 0, name⟩ from by simp [List.flatMap_cons, List.append_assoc]]; exact ho); have DX3 := hide (DQ.of (DA.out.low.grown hgr DA.out.size (fun jj h => (HA.out.lt jj h).1))); clear ho hgr hnil; have e0 := cell_of_block DX3.out.box 0)
  clear HA DA HNEW hw5
  have HF := hide (flds_at (m := [⟨0, 1, 1, ⟨#[]⟩⟩, ⟨0, 2, (IntKind.u64.wrap code), ⟨#[]⟩⟩, ⟨0, 1, ak, ⟨#[]⟩⟩, ⟨2, 0, 0, name⟩]) rfl OW3.out)
  have HRF := hide (refWrite_any [⟨0, 1, 1, ⟨#[]⟩⟩, ⟨0, 2, (IntKind.u64.wrap code), ⟨#[]⟩⟩, ⟨0, 1, ak, ⟨#[]⟩⟩, ⟨2, 0, 0, name⟩] (by show 4 ≤ 1000; omega) HFQ.out.good (some ⟨g2, 0, none⟩) c2 W3 HF.out)
  rw [HFQ.out.ref.1, HFQ.out.ref.2] at HRF
  refine HRF.out.mono ?_
  rintro e w9 ⟨rfl, hb⟩
  have D9 := hide (DX3.out.to hb)
  have e0 := cell_of_block D9.out.box 0
  clear hb HRF HF OW3 DX3
  have HEN := hide (renc_end (w := w) (W := w9) HEO.out HEB.out D9.out.below)
  generalize outS ok T = S1 at *
  go_wp2_with fail
  go_ret2
  exact HEN.out
set_option maxRecDepth 100000 in
set_option maxHeartbeats 1000000 in
theorem renc_2 (key ref amt code ak : Int) (name : ByteArray) (L : List LnM) (n : Int) (hr : RqOk ⟨2, ek0, key, ref, amt, code, ak, name, L, n⟩) (hn : name.size ≤ 300) (a : Option Addr) (cap : Nat) (w : World) (hin : LnIn w a L) :
    Calls Try.prog 9 #[.agg #[.int .u8 2, .int .i64 code, .int .u8 ak, .string name, .int .u64 key, .int .i64 ref, .int .i64 amt, .int .i64 n, .slice a L.length cap]] w (RqEIs ⟨2, ek0, key, ref, amt, code, ak, name, L, n⟩ w) := by
  obtain ⟨i0, hi, hz0, hz1, hz2⟩ := info_parts (show (Try.prog.info? 89).map (fun i => (i.zero, i.size, i.bytes)) = some (some (.agg #[.int .i64 0, .int .i64 0, .int .u64 0, .string ⟨#[]⟩]), 4, 40) by kernel_rfl)
  have HI := hide hi
  have HZ0 := hide hz0
  have HZ1 := hide hz1
  have HZ2 := hide hz2
  have HR := hide hr
  have HIN := hide hin
  have H0 := fq_kind 2 (by decide)
  obtain ⟨ok, hok⟩ : ∃ ok, encOk ⟨2, ek0, key, ref, amt, code, ak, name, L, n⟩ = ok := ⟨_, rfl⟩
  obtain ⟨T, hT⟩ : ∃ T, encT ⟨2, ek0, key, ref, amt, code, ak, name, L, n⟩ = T := ⟨_, rfl⟩
  have HEO := hide hok
  have HEB := hide hT
  have HFQ := hide (show FQ [⟨0, 1, 2, ⟨#[]⟩⟩] ok T from FQ.cast (H0) (show _ = ok from by rw [← hok, encOk_0 (Or.inl rfl)]; (try simp only [Bool.true_and])) (show _ = T from by rw [← hT, head_t (r := ⟨2, ek0, key, ref, amt, code, ak, name, L, n⟩) 2 _ (encB_0 (Or.inl rfl)) rfl]; (try simp only [List.append_assoc, List.append_nil]); (try rfl)))
  clear hi hz0 hz1 hz2 H0 hr hin hn hT hok
  have D0 := hide (DQ.new w #[.int .u8 2, .int .i64 code, .int .u8 ak, .string name, .int .u64 key, .int .i64 ref, .int .i64 amt, .int .i64 n, .slice a L.length cap])
  have e0 := cell_of_block D0.out.box 0
  go_enter Try.func9, Try.ntmps9
  go_wp2_with fail
  refine (rnum_any 2 1 _).mono ?_
  rintro e v0 ⟨rfl, hb⟩
  have DN := hide (D0.out.to hb)
  have hal := (Below.refl v0.heap.size v0).alloc (Nat.le_refl _) (.cells (fc ⟨0, 1, 2, ⟨#[]⟩⟩).toArray 89)
  have OW0 := hide (row_new v0 (w.heap.size + 1) DN.out.size ⟨0, 1, 2, ⟨#[]⟩⟩)
  have DX0 := hide (DN.out.to hal)
  clear D0 DN hb hal e0
  go_upto_region 4 with (fail)
  dsimp only [fc] at OW0 DX0
  generalize v0.alloc (.cells #[.int .i64 0, .int .i64 1, .int .u64 2, .string ⟨#[]⟩] 89) = W0 at *
  generalize v0.heap.size = q0 at *
  have e0 := cell_of_block DX0.out.box 0
  go_wp2_with fail
  have HF := hide (flds_at (m := [⟨0, 1, 2, ⟨#[]⟩⟩]) rfl OW0.out)
  have HRF := hide (refWrite_any [⟨0, 1, 2, ⟨#[]⟩⟩] (by show 1 ≤ 1000; omega) HFQ.out.good (some ⟨q0, 0, none⟩) 1 W0 HF.out)
  rw [HFQ.out.ref.1, HFQ.out.ref.2] at HRF
  refine HRF.out.mono ?_
  rintro e w9 ⟨rfl, hb⟩
  have D9 := hide (DX0.out.to hb)
  have e0 := cell_of_block D9.out.box 0
  clear hb HRF HF OW0 DX0
  have HEN := hide (renc_end (w := w) (W := w9) HEO.out HEB.out D9.out.below)
  generalize outS ok T = S1 at *
  go_wp2_with fail
  go_ret2
  exact HEN.out
set_option maxRecDepth 100000 in
set_option maxHeartbeats 1000000 in
theorem renc_3 (key ref amt code ak : Int) (name : ByteArray) (L : List LnM) (n : Int) (hr : RqOk ⟨3, ek0, key, ref, amt, code, ak, name, L, n⟩) (hn : name.size ≤ 300) (a : Option Addr) (cap : Nat) (w : World) (hin : LnIn w a L) :
    Calls Try.prog 9 #[.agg #[.int .u8 3, .int .i64 code, .int .u8 ak, .string name, .int .u64 key, .int .i64 ref, .int .i64 amt, .int .i64 n, .slice a L.length cap]] w (RqEIs ⟨3, ek0, key, ref, amt, code, ak, name, L, n⟩ w) := by
  obtain ⟨i0, hi, hz0, hz1, hz2⟩ := info_parts (show (Try.prog.info? 89).map (fun i => (i.zero, i.size, i.bytes)) = some (some (.agg #[.int .i64 0, .int .i64 0, .int .u64 0, .string ⟨#[]⟩]), 4, 40) by kernel_rfl)
  have HI := hide hi
  have HZ0 := hide hz0
  have HZ1 := hide hz1
  have HZ2 := hide hz2
  have HR := hide hr
  have HIN := hide hin
  have H0 := fq_kind 3 (by decide)
  obtain ⟨ok, hok⟩ : ∃ ok, encOk ⟨3, ek0, key, ref, amt, code, ak, name, L, n⟩ = ok := ⟨_, rfl⟩
  obtain ⟨T, hT⟩ : ∃ T, encT ⟨3, ek0, key, ref, amt, code, ak, name, L, n⟩ = T := ⟨_, rfl⟩
  have HEO := hide hok
  have HEB := hide hT
  have HFQ := hide (show FQ [⟨0, 1, 3, ⟨#[]⟩⟩] ok T from FQ.cast (H0) (show _ = ok from by rw [← hok, encOk_0 (Or.inr (Or.inl rfl))]; (try simp only [Bool.true_and])) (show _ = T from by rw [← hT, head_t (r := ⟨3, ek0, key, ref, amt, code, ak, name, L, n⟩) 3 _ (encB_0 (Or.inr (Or.inl rfl))) rfl]; (try simp only [List.append_assoc, List.append_nil]); (try rfl)))
  clear hi hz0 hz1 hz2 H0 hr hin hn hT hok
  have D0 := hide (DQ.new w #[.int .u8 3, .int .i64 code, .int .u8 ak, .string name, .int .u64 key, .int .i64 ref, .int .i64 amt, .int .i64 n, .slice a L.length cap])
  have e0 := cell_of_block D0.out.box 0
  go_enter Try.func9, Try.ntmps9
  go_wp2_with fail
  refine (rnum_any 3 1 _).mono ?_
  rintro e v0 ⟨rfl, hb⟩
  have DN := hide (D0.out.to hb)
  have hal := (Below.refl v0.heap.size v0).alloc (Nat.le_refl _) (.cells (fc ⟨0, 1, 3, ⟨#[]⟩⟩).toArray 89)
  have OW0 := hide (row_new v0 (w.heap.size + 1) DN.out.size ⟨0, 1, 3, ⟨#[]⟩⟩)
  have DX0 := hide (DN.out.to hal)
  clear D0 DN hb hal e0
  go_upto_region 4 with (fail)
  dsimp only [fc] at OW0 DX0
  generalize v0.alloc (.cells #[.int .i64 0, .int .i64 1, .int .u64 3, .string ⟨#[]⟩] 89) = W0 at *
  generalize v0.heap.size = q0 at *
  have e0 := cell_of_block DX0.out.box 0
  go_wp2_with fail
  have HF := hide (flds_at (m := [⟨0, 1, 3, ⟨#[]⟩⟩]) rfl OW0.out)
  have HRF := hide (refWrite_any [⟨0, 1, 3, ⟨#[]⟩⟩] (by show 1 ≤ 1000; omega) HFQ.out.good (some ⟨q0, 0, none⟩) 1 W0 HF.out)
  rw [HFQ.out.ref.1, HFQ.out.ref.2] at HRF
  refine HRF.out.mono ?_
  rintro e w9 ⟨rfl, hb⟩
  have D9 := hide (DX0.out.to hb)
  have e0 := cell_of_block D9.out.box 0
  clear hb HRF HF OW0 DX0
  have HEN := hide (renc_end (w := w) (W := w9) HEO.out HEB.out D9.out.below)
  generalize outS ok T = S1 at *
  go_wp2_with fail
  go_ret2
  exact HEN.out
set_option maxRecDepth 100000 in
set_option maxHeartbeats 1000000 in
theorem renc_4 (key ref amt code ak : Int) (name : ByteArray) (L : List LnM) (n : Int) (hr : RqOk ⟨4, ek0, key, ref, amt, code, ak, name, L, n⟩) (hn : name.size ≤ 300) (a : Option Addr) (cap : Nat) (w : World) (hin : LnIn w a L) :
    Calls Try.prog 9 #[.agg #[.int .u8 4, .int .i64 code, .int .u8 ak, .string name, .int .u64 key, .int .i64 ref, .int .i64 amt, .int .i64 n, .slice a L.length cap]] w (RqEIs ⟨4, ek0, key, ref, amt, code, ak, name, L, n⟩ w) := by
  obtain ⟨i0, hi, hz0, hz1, hz2⟩ := info_parts (show (Try.prog.info? 89).map (fun i => (i.zero, i.size, i.bytes)) = some (some (.agg #[.int .i64 0, .int .i64 0, .int .u64 0, .string ⟨#[]⟩]), 4, 40) by kernel_rfl)
  have HI := hide hi
  have HZ0 := hide hz0
  have HZ1 := hide hz1
  have HZ2 := hide hz2
  have HR := hide hr
  have HIN := hide hin
  have H0 := fq_kind 4 (by decide)
  obtain ⟨T, hT⟩ : ∃ T, putL 4 1 ++ putL key.toNat 8 = T := ⟨_, rfl⟩
  have HT := hide hT
  have HFQ := hide (show FQ [⟨0, 1, 4, ⟨#[]⟩⟩, ⟨0, 8, key, ⟨#[]⟩⟩] true T from FQ.cast (H0.num8 key HR.out.key) rfl (show _ = T from hT))
  have HEO := hide (show encOk ⟨4, ek0, key, ref, amt, code, ak, name, L, n⟩ = textOk L from encOk_4 (Or.inl rfl))
  have HEB := hide (show encT ⟨4, ek0, key, ref, amt, code, ak, name, L, n⟩ = T ++ poT L from by rw [head_t (r := ⟨4, ek0, key, ref, amt, code, ak, name, L, n⟩) 4 _ (encB_4 (Or.inl rfl)) rfl, ← hT, List.append_assoc])
  clear hi hz0 hz1 hz2 H0 hr hin hn hT
  have D0 := hide (DQ.new w #[.int .u8 4, .int .i64 code, .int .u8 ak, .string name, .int .u64 key, .int .i64 ref, .int .i64 amt, .int .i64 n, .slice a L.length cap])
  have e0 := cell_of_block D0.out.box 0
  go_enter Try.func9, Try.ntmps9
  go_wp2_with fail
  refine (rnum_any 4 1 _).mono ?_
  rintro e v0 ⟨rfl, hb⟩
  have DN := hide (D0.out.to hb)
  have hal := (Below.refl v0.heap.size v0).alloc (Nat.le_refl _) (.cells (fc ⟨0, 1, 4, ⟨#[]⟩⟩).toArray 89)
  have OW0 := hide (row_new v0 (w.heap.size + 1) DN.out.size ⟨0, 1, 4, ⟨#[]⟩⟩)
  have DX0 := hide (DN.out.to hal)
  clear D0 DN hb hal e0
  go_upto_region 4 with (fail)
  dsimp only [fc] at OW0 DX0
  generalize v0.alloc (.cells #[.int .i64 0, .int .i64 1, .int .u64 4, .string ⟨#[]⟩] 89) = W0 at *
  generalize v0.heap.size = q0 at *
  have e0 := cell_of_block DX0.out.box 0
  have e4 := cell_of_block DX0.out.box 4
  go_wp2_with fail
  refine (rnum_any (key) 8 _).mono ?_
  rintro e v1 ⟨rfl, hb⟩
  have OV := hide (owns_below OW0.out hb)
  have DV := hide (DX0.out.to hb)
  clear hb OW0 DX0
  have hal := (Below.refl v1.heap.size v1).alloc (Nat.le_refl _) (.cells #[.int .i64 0, .int .i64 8, .int .u64 key, .string ⟨#[]⟩] 89)
  have HA := hide (owns_below OV.out hal)
  have DA := hide (DV.out.to hal)
  have hw5 : w.heap.size + 1 ≤ (v1.alloc (.cells #[.int .i64 0, .int .i64 8, .int .u64 key, .string ⟨#[]⟩] 89)).heap.size := DA.out.size
  have HNEW := hide (heap_new v1 (.cells #[.int .i64 0, .int .i64 8, .int .u64 key, .string ⟨#[]⟩] 89))
  clear hal OV DV
  go_wp2_with (at_builtin; refine wpList_append_own2 _ rfl _ _ 91 rfl (w.heap.size + 1) 89 i0 (.agg #[.int .i64 0, .int .i64 0, .int .u64 0, .string ⟨#[]⟩]) 4 40 Try.underlying91 HI.out HZ0.out HZ1.out HZ2.out rfl (by decide) (.slice (some ⟨q0, 0, none⟩) 1 1) 1 (List.flatMap fc [⟨0, 1, 4, ⟨#[]⟩⟩]) rfl HA.out ⟨v1.heap.size, 0, none⟩ 1 1 (by decide) (fc ⟨0, 8, key, ⟨#[]⟩⟩) rfl rfl (cells_new HNEW.out) (fc_one _) (by unfold maxLen; omega) (by omega) hw5 ?_; intro g0 c0 W1 ho hgr hnil; have OW1 := hide (show W1.ownsRow (w.heap.size + 1) 89 4 (.slice (some ⟨g0, 0, none⟩) 2 c0) 2 (List.flatMap fc [⟨0, 1, 4, ⟨#[]⟩⟩, ⟨0, 8, key, ⟨#[]⟩⟩]) from by rw [show (List.flatMap fc [⟨0, 1, 4, ⟨#[]⟩⟩, ⟨0, 8, key, ⟨#[]⟩⟩]) = List.flatMap fc [⟨0, 1, 4, ⟨#[]⟩⟩] ++ fc ⟨0, 8, key, ⟨#[]⟩⟩ from by simp [List.flatMap_cons, List.append_assoc]]; exact ho); have DX1 := hide (DQ.of (DA.out.low.grown hgr DA.out.size (fun jj h => (HA.out.lt jj h).1))); clear ho hgr hnil; have e0 := cell_of_block DX1.out.box 0)
  clear HA DA HNEW hw5
  have HF := hide (flds_at (m := [⟨0, 1, 4, ⟨#[]⟩⟩, ⟨0, 8, key, ⟨#[]⟩⟩]) rfl OW1.out)
  have HRF := hide (refWrite_any [⟨0, 1, 4, ⟨#[]⟩⟩, ⟨0, 8, key, ⟨#[]⟩⟩] (by show 2 ≤ 1000; omega) HFQ.out.good (some ⟨g0, 0, none⟩) c0 W1 HF.out)
  rw [HFQ.out.ref.1, HFQ.out.ref.2] at HRF
  refine HRF.out.mono ?_
  rintro e w9 ⟨rfl, hb⟩
  have D9 := hide (DX1.out.to hb)
  have e0 := cell_of_block D9.out.box 0
  clear hb HRF HF OW1 DX1
  have e8 := cell_of_block D9.out.box 8
  have HTX := hide (rptext L HR.out.few HR.out.L a cap w9 (HIN.out.below D9.out.below))
  go_wp2_with fail
  refine HTX.out.mono ?_
  rintro e w10 ⟨rfl, hb⟩
  have B10 := hide (D9.out.to hb).below
  clear hb HTX D9 e0 e8
  by_cases htx : textOk L = true
  · have HEN := hide (renc_cat (HEO.out.trans htx) HEB.out htx B10.out)
    have hsz : ¬ 9223372036854775807 < (outS true T).size + (txtS L).size := txt_small HT.out HR.out.few
    generalize txtS L = S at *
    generalize outS true T = S1 at *
    rw [htx]
    clear htx
    go_wp2_with fail
    go_ret2
    exact HEN.out
  · have htf : textOk L = false := by simpa using htx
    have HEN := hide (renc_no (HEO.out.trans htf) B10.out)
    generalize txtS L = S at *
    rw [htf]
    clear htx htf
    go_wp2_with fail
    go_ret2
    exact HEN.out
set_option maxRecDepth 100000 in
set_option maxHeartbeats 1000000 in
theorem renc_5 (key ref amt code ak : Int) (name : ByteArray) (L : List LnM) (n : Int) (hr : RqOk ⟨5, ek0, key, ref, amt, code, ak, name, L, n⟩) (hn : name.size ≤ 300) (a : Option Addr) (cap : Nat) (w : World) (hin : LnIn w a L) :
    Calls Try.prog 9 #[.agg #[.int .u8 5, .int .i64 code, .int .u8 ak, .string name, .int .u64 key, .int .i64 ref, .int .i64 amt, .int .i64 n, .slice a L.length cap]] w (RqEIs ⟨5, ek0, key, ref, amt, code, ak, name, L, n⟩ w) := by
  obtain ⟨i0, hi, hz0, hz1, hz2⟩ := info_parts (show (Try.prog.info? 89).map (fun i => (i.zero, i.size, i.bytes)) = some (some (.agg #[.int .i64 0, .int .i64 0, .int .u64 0, .string ⟨#[]⟩]), 4, 40) by kernel_rfl)
  have HI := hide hi
  have HZ0 := hide hz0
  have HZ1 := hide hz1
  have HZ2 := hide hz2
  have HR := hide hr
  have HIN := hide hin
  have H0 := fq_kind 5 (by decide)
  obtain ⟨ok, hok⟩ : ∃ ok, encOk ⟨5, ek0, key, ref, amt, code, ak, name, L, n⟩ = ok := ⟨_, rfl⟩
  obtain ⟨T, hT⟩ : ∃ T, encT ⟨5, ek0, key, ref, amt, code, ak, name, L, n⟩ = T := ⟨_, rfl⟩
  have HEO := hide hok
  have HEB := hide hT
  have HFQ := hide (show FQ [⟨0, 1, 5, ⟨#[]⟩⟩, ⟨0, 8, key, ⟨#[]⟩⟩, ⟨0, 4, (IntKind.u64.wrap ref), ⟨#[]⟩⟩] ok T from FQ.cast ((H0.num8 key HR.out.key).num4 ref HR.out.ref) (show _ = ok from by rw [← hok, encOk_5 (Or.inl rfl)]; (try simp only [Bool.true_and])) (show _ = T from by rw [← hT, head_t (r := ⟨5, ek0, key, ref, amt, code, ak, name, L, n⟩) 5 _ (encB_5 rfl) rfl]; (try simp only [List.append_assoc, List.append_nil]); (try rfl)))
  clear hi hz0 hz1 hz2 H0 hr hin hn hT hok
  have D0 := hide (DQ.new w #[.int .u8 5, .int .i64 code, .int .u8 ak, .string name, .int .u64 key, .int .i64 ref, .int .i64 amt, .int .i64 n, .slice a L.length cap])
  have e0 := cell_of_block D0.out.box 0
  go_enter Try.func9, Try.ntmps9
  go_wp2_with fail
  refine (rnum_any 5 1 _).mono ?_
  rintro e v0 ⟨rfl, hb⟩
  have DN := hide (D0.out.to hb)
  have hal := (Below.refl v0.heap.size v0).alloc (Nat.le_refl _) (.cells (fc ⟨0, 1, 5, ⟨#[]⟩⟩).toArray 89)
  have OW0 := hide (row_new v0 (w.heap.size + 1) DN.out.size ⟨0, 1, 5, ⟨#[]⟩⟩)
  have DX0 := hide (DN.out.to hal)
  clear D0 DN hb hal e0
  go_upto_region 4 with (fail)
  dsimp only [fc] at OW0 DX0
  generalize v0.alloc (.cells #[.int .i64 0, .int .i64 1, .int .u64 5, .string ⟨#[]⟩] 89) = W0 at *
  generalize v0.heap.size = q0 at *
  have e0 := cell_of_block DX0.out.box 0
  have e4 := cell_of_block DX0.out.box 4
  go_wp2_with fail
  refine (rnum_any (key) 8 _).mono ?_
  rintro e v1 ⟨rfl, hb⟩
  have OV := hide (owns_below OW0.out hb)
  have DV := hide (DX0.out.to hb)
  clear hb OW0 DX0
  have hal := (Below.refl v1.heap.size v1).alloc (Nat.le_refl _) (.cells #[.int .i64 0, .int .i64 8, .int .u64 key, .string ⟨#[]⟩] 89)
  have HA := hide (owns_below OV.out hal)
  have DA := hide (DV.out.to hal)
  have hw5 : w.heap.size + 1 ≤ (v1.alloc (.cells #[.int .i64 0, .int .i64 8, .int .u64 key, .string ⟨#[]⟩] 89)).heap.size := DA.out.size
  have HNEW := hide (heap_new v1 (.cells #[.int .i64 0, .int .i64 8, .int .u64 key, .string ⟨#[]⟩] 89))
  clear hal OV DV
  go_wp2_with (at_builtin; refine wpList_append_own2 _ rfl _ _ 91 rfl (w.heap.size + 1) 89 i0 (.agg #[.int .i64 0, .int .i64 0, .int .u64 0, .string ⟨#[]⟩]) 4 40 Try.underlying91 HI.out HZ0.out HZ1.out HZ2.out rfl (by decide) (.slice (some ⟨q0, 0, none⟩) 1 1) 1 (List.flatMap fc [⟨0, 1, 5, ⟨#[]⟩⟩]) rfl HA.out ⟨v1.heap.size, 0, none⟩ 1 1 (by decide) (fc ⟨0, 8, key, ⟨#[]⟩⟩) rfl rfl (cells_new HNEW.out) (fc_one _) (by unfold maxLen; omega) (by omega) hw5 ?_; intro g0 c0 W1 ho hgr hnil; have OW1 := hide (show W1.ownsRow (w.heap.size + 1) 89 4 (.slice (some ⟨g0, 0, none⟩) 2 c0) 2 (List.flatMap fc [⟨0, 1, 5, ⟨#[]⟩⟩, ⟨0, 8, key, ⟨#[]⟩⟩]) from by rw [show (List.flatMap fc [⟨0, 1, 5, ⟨#[]⟩⟩, ⟨0, 8, key, ⟨#[]⟩⟩]) = List.flatMap fc [⟨0, 1, 5, ⟨#[]⟩⟩] ++ fc ⟨0, 8, key, ⟨#[]⟩⟩ from by simp [List.flatMap_cons, List.append_assoc]]; exact ho); have DX1 := hide (DQ.of (DA.out.low.grown hgr DA.out.size (fun jj h => (HA.out.lt jj h).1))); clear ho hgr hnil; have e0 := cell_of_block DX1.out.box 0; have e5 := cell_of_block DX1.out.box 5)
  clear HA DA HNEW hw5
  refine (rnum_any ((IntKind.u64.wrap ref)) 4 _).mono ?_
  rintro e v2 ⟨rfl, hb⟩
  have OV := hide (owns_below OW1.out hb)
  have DV := hide (DX1.out.to hb)
  clear hb OW1 DX1
  have hal := (Below.refl v2.heap.size v2).alloc (Nat.le_refl _) (.cells #[.int .i64 0, .int .i64 4, .int .u64 (IntKind.u64.wrap ref), .string ⟨#[]⟩] 89)
  have HA := hide (owns_below OV.out hal)
  have DA := hide (DV.out.to hal)
  have hw5 : w.heap.size + 1 ≤ (v2.alloc (.cells #[.int .i64 0, .int .i64 4, .int .u64 (IntKind.u64.wrap ref), .string ⟨#[]⟩] 89)).heap.size := DA.out.size
  have HNEW := hide (heap_new v2 (.cells #[.int .i64 0, .int .i64 4, .int .u64 (IntKind.u64.wrap ref), .string ⟨#[]⟩] 89))
  clear hal OV DV
  go_wp2_with (at_builtin; refine wpList_append_own2 _ rfl _ _ 91 rfl (w.heap.size + 1) 89 i0 (.agg #[.int .i64 0, .int .i64 0, .int .u64 0, .string ⟨#[]⟩]) 4 40 Try.underlying91 HI.out HZ0.out HZ1.out HZ2.out rfl (by decide) (.slice (some ⟨g0, 0, none⟩) 2 c0) 2 (List.flatMap fc [⟨0, 1, 5, ⟨#[]⟩⟩, ⟨0, 8, key, ⟨#[]⟩⟩]) rfl HA.out ⟨v2.heap.size, 0, none⟩ 1 1 (by decide) (fc ⟨0, 4, (IntKind.u64.wrap ref), ⟨#[]⟩⟩) rfl rfl (cells_new HNEW.out) (fc_one _) (by unfold maxLen; omega) (by omega) hw5 ?_; intro g1 c1 W2 ho hgr hnil; have OW2 := hide (show W2.ownsRow (w.heap.size + 1) 89 4 (.slice (some ⟨g1, 0, none⟩) 3 c1) 3 (List.flatMap fc [⟨0, 1, 5, ⟨#[]⟩⟩, ⟨0, 8, key, ⟨#[]⟩⟩, ⟨0, 4, (IntKind.u64.wrap ref), ⟨#[]⟩⟩]) from by rw [show (List.flatMap fc [⟨0, 1, 5, ⟨#[]⟩⟩, ⟨0, 8, key, ⟨#[]⟩⟩, ⟨0, 4, (IntKind.u64.wrap ref), ⟨#[]⟩⟩]) = List.flatMap fc [⟨0, 1, 5, ⟨#[]⟩⟩, ⟨0, 8, key, ⟨#[]⟩⟩] ++ fc ⟨0, 4, (IntKind.u64.wrap ref), ⟨#[]⟩⟩ from by simp [List.flatMap_cons, List.append_assoc]]; exact ho); have DX2 := hide (DQ.of (DA.out.low.grown hgr DA.out.size (fun jj h => (HA.out.lt jj h).1))); clear ho hgr hnil; have e0 := cell_of_block DX2.out.box 0)
  clear HA DA HNEW hw5
  have HF := hide (flds_at (m := [⟨0, 1, 5, ⟨#[]⟩⟩, ⟨0, 8, key, ⟨#[]⟩⟩, ⟨0, 4, (IntKind.u64.wrap ref), ⟨#[]⟩⟩]) rfl OW2.out)
  have HRF := hide (refWrite_any [⟨0, 1, 5, ⟨#[]⟩⟩, ⟨0, 8, key, ⟨#[]⟩⟩, ⟨0, 4, (IntKind.u64.wrap ref), ⟨#[]⟩⟩] (by show 3 ≤ 1000; omega) HFQ.out.good (some ⟨g1, 0, none⟩) c1 W2 HF.out)
  rw [HFQ.out.ref.1, HFQ.out.ref.2] at HRF
  refine HRF.out.mono ?_
  rintro e w9 ⟨rfl, hb⟩
  have D9 := hide (DX2.out.to hb)
  have e0 := cell_of_block D9.out.box 0
  clear hb HRF HF OW2 DX2
  have HEN := hide (renc_end (w := w) (W := w9) HEO.out HEB.out D9.out.below)
  generalize outS ok T = S1 at *
  go_wp2_with fail
  go_ret2
  exact HEN.out
set_option maxRecDepth 100000 in
set_option maxHeartbeats 1000000 in
theorem renc_6 (key ref amt code ak : Int) (name : ByteArray) (L : List LnM) (n : Int) (hr : RqOk ⟨6, ek0, key, ref, amt, code, ak, name, L, n⟩) (hn : name.size ≤ 300) (a : Option Addr) (cap : Nat) (w : World) (hin : LnIn w a L) :
    Calls Try.prog 9 #[.agg #[.int .u8 6, .int .i64 code, .int .u8 ak, .string name, .int .u64 key, .int .i64 ref, .int .i64 amt, .int .i64 n, .slice a L.length cap]] w (RqEIs ⟨6, ek0, key, ref, amt, code, ak, name, L, n⟩ w) := by
  obtain ⟨i0, hi, hz0, hz1, hz2⟩ := info_parts (show (Try.prog.info? 89).map (fun i => (i.zero, i.size, i.bytes)) = some (some (.agg #[.int .i64 0, .int .i64 0, .int .u64 0, .string ⟨#[]⟩]), 4, 40) by kernel_rfl)
  have HI := hide hi
  have HZ0 := hide hz0
  have HZ1 := hide hz1
  have HZ2 := hide hz2
  have HR := hide hr
  have HIN := hide hin
  have H0 := fq_kind 6 (by decide)
  obtain ⟨ok, hok⟩ : ∃ ok, encOk ⟨6, ek0, key, ref, amt, code, ak, name, L, n⟩ = ok := ⟨_, rfl⟩
  obtain ⟨T, hT⟩ : ∃ T, encT ⟨6, ek0, key, ref, amt, code, ak, name, L, n⟩ = T := ⟨_, rfl⟩
  have HEO := hide hok
  have HEB := hide hT
  have HFQ := hide (show FQ [⟨0, 1, 6, ⟨#[]⟩⟩, ⟨0, 8, key, ⟨#[]⟩⟩, ⟨0, 4, (IntKind.u64.wrap ref), ⟨#[]⟩⟩, ⟨1, 0, IntKind.u64.wrap amt, ⟨#[]⟩⟩] ok T from FQ.cast (((H0.num8 key HR.out.key).num4 ref HR.out.ref).sig amt) (show _ = ok from by rw [← hok, encOk_5 (Or.inr rfl)]; (try simp only [Bool.true_and])) (show _ = T from by rw [← hT, head_t (r := ⟨6, ek0, key, ref, amt, code, ak, name, L, n⟩) 6 _ (encB_6 rfl) rfl]; (try simp only [List.append_assoc, List.append_nil]); (try rfl)))
  clear hi hz0 hz1 hz2 H0 hr hin hn hT hok
  have D0 := hide (DQ.new w #[.int .u8 6, .int .i64 code, .int .u8 ak, .string name, .int .u64 key, .int .i64 ref, .int .i64 amt, .int .i64 n, .slice a L.length cap])
  have e0 := cell_of_block D0.out.box 0
  go_enter Try.func9, Try.ntmps9
  go_wp2_with fail
  refine (rnum_any 6 1 _).mono ?_
  rintro e v0 ⟨rfl, hb⟩
  have DN := hide (D0.out.to hb)
  have hal := (Below.refl v0.heap.size v0).alloc (Nat.le_refl _) (.cells (fc ⟨0, 1, 6, ⟨#[]⟩⟩).toArray 89)
  have OW0 := hide (row_new v0 (w.heap.size + 1) DN.out.size ⟨0, 1, 6, ⟨#[]⟩⟩)
  have DX0 := hide (DN.out.to hal)
  clear D0 DN hb hal e0
  go_upto_region 4 with (fail)
  dsimp only [fc] at OW0 DX0
  generalize v0.alloc (.cells #[.int .i64 0, .int .i64 1, .int .u64 6, .string ⟨#[]⟩] 89) = W0 at *
  generalize v0.heap.size = q0 at *
  have e0 := cell_of_block DX0.out.box 0
  have e4 := cell_of_block DX0.out.box 4
  go_wp2_with fail
  refine (rnum_any (key) 8 _).mono ?_
  rintro e v1 ⟨rfl, hb⟩
  have OV := hide (owns_below OW0.out hb)
  have DV := hide (DX0.out.to hb)
  clear hb OW0 DX0
  have hal := (Below.refl v1.heap.size v1).alloc (Nat.le_refl _) (.cells #[.int .i64 0, .int .i64 8, .int .u64 key, .string ⟨#[]⟩] 89)
  have HA := hide (owns_below OV.out hal)
  have DA := hide (DV.out.to hal)
  have hw5 : w.heap.size + 1 ≤ (v1.alloc (.cells #[.int .i64 0, .int .i64 8, .int .u64 key, .string ⟨#[]⟩] 89)).heap.size := DA.out.size
  have HNEW := hide (heap_new v1 (.cells #[.int .i64 0, .int .i64 8, .int .u64 key, .string ⟨#[]⟩] 89))
  clear hal OV DV
  go_wp2_with (at_builtin; refine wpList_append_own2 _ rfl _ _ 91 rfl (w.heap.size + 1) 89 i0 (.agg #[.int .i64 0, .int .i64 0, .int .u64 0, .string ⟨#[]⟩]) 4 40 Try.underlying91 HI.out HZ0.out HZ1.out HZ2.out rfl (by decide) (.slice (some ⟨q0, 0, none⟩) 1 1) 1 (List.flatMap fc [⟨0, 1, 6, ⟨#[]⟩⟩]) rfl HA.out ⟨v1.heap.size, 0, none⟩ 1 1 (by decide) (fc ⟨0, 8, key, ⟨#[]⟩⟩) rfl rfl (cells_new HNEW.out) (fc_one _) (by unfold maxLen; omega) (by omega) hw5 ?_; intro g0 c0 W1 ho hgr hnil; have OW1 := hide (show W1.ownsRow (w.heap.size + 1) 89 4 (.slice (some ⟨g0, 0, none⟩) 2 c0) 2 (List.flatMap fc [⟨0, 1, 6, ⟨#[]⟩⟩, ⟨0, 8, key, ⟨#[]⟩⟩]) from by rw [show (List.flatMap fc [⟨0, 1, 6, ⟨#[]⟩⟩, ⟨0, 8, key, ⟨#[]⟩⟩]) = List.flatMap fc [⟨0, 1, 6, ⟨#[]⟩⟩] ++ fc ⟨0, 8, key, ⟨#[]⟩⟩ from by simp [List.flatMap_cons, List.append_assoc]]; exact ho); have DX1 := hide (DQ.of (DA.out.low.grown hgr DA.out.size (fun jj h => (HA.out.lt jj h).1))); clear ho hgr hnil; have e0 := cell_of_block DX1.out.box 0; have e5 := cell_of_block DX1.out.box 5)
  clear HA DA HNEW hw5
  refine (rnum_any ((IntKind.u64.wrap ref)) 4 _).mono ?_
  rintro e v2 ⟨rfl, hb⟩
  have OV := hide (owns_below OW1.out hb)
  have DV := hide (DX1.out.to hb)
  clear hb OW1 DX1
  have hal := (Below.refl v2.heap.size v2).alloc (Nat.le_refl _) (.cells #[.int .i64 0, .int .i64 4, .int .u64 (IntKind.u64.wrap ref), .string ⟨#[]⟩] 89)
  have HA := hide (owns_below OV.out hal)
  have DA := hide (DV.out.to hal)
  have hw5 : w.heap.size + 1 ≤ (v2.alloc (.cells #[.int .i64 0, .int .i64 4, .int .u64 (IntKind.u64.wrap ref), .string ⟨#[]⟩] 89)).heap.size := DA.out.size
  have HNEW := hide (heap_new v2 (.cells #[.int .i64 0, .int .i64 4, .int .u64 (IntKind.u64.wrap ref), .string ⟨#[]⟩] 89))
  clear hal OV DV
  go_wp2_with (at_builtin; refine wpList_append_own2 _ rfl _ _ 91 rfl (w.heap.size + 1) 89 i0 (.agg #[.int .i64 0, .int .i64 0, .int .u64 0, .string ⟨#[]⟩]) 4 40 Try.underlying91 HI.out HZ0.out HZ1.out HZ2.out rfl (by decide) (.slice (some ⟨g0, 0, none⟩) 2 c0) 2 (List.flatMap fc [⟨0, 1, 6, ⟨#[]⟩⟩, ⟨0, 8, key, ⟨#[]⟩⟩]) rfl HA.out ⟨v2.heap.size, 0, none⟩ 1 1 (by decide) (fc ⟨0, 4, (IntKind.u64.wrap ref), ⟨#[]⟩⟩) rfl rfl (cells_new HNEW.out) (fc_one _) (by unfold maxLen; omega) (by omega) hw5 ?_; intro g1 c1 W2 ho hgr hnil; have OW2 := hide (show W2.ownsRow (w.heap.size + 1) 89 4 (.slice (some ⟨g1, 0, none⟩) 3 c1) 3 (List.flatMap fc [⟨0, 1, 6, ⟨#[]⟩⟩, ⟨0, 8, key, ⟨#[]⟩⟩, ⟨0, 4, (IntKind.u64.wrap ref), ⟨#[]⟩⟩]) from by rw [show (List.flatMap fc [⟨0, 1, 6, ⟨#[]⟩⟩, ⟨0, 8, key, ⟨#[]⟩⟩, ⟨0, 4, (IntKind.u64.wrap ref), ⟨#[]⟩⟩]) = List.flatMap fc [⟨0, 1, 6, ⟨#[]⟩⟩, ⟨0, 8, key, ⟨#[]⟩⟩] ++ fc ⟨0, 4, (IntKind.u64.wrap ref), ⟨#[]⟩⟩ from by simp [List.flatMap_cons, List.append_assoc]]; exact ho); have DX2 := hide (DQ.of (DA.out.low.grown hgr DA.out.size (fun jj h => (HA.out.lt jj h).1))); clear ho hgr hnil; have e0 := cell_of_block DX2.out.box 0; have e6 := cell_of_block DX2.out.box 6)
  clear HA DA HNEW hw5
  refine (rsigned_any (amt) _).mono ?_
  rintro e v3 ⟨rfl, hb⟩
  have OV := hide (owns_below OW2.out hb)
  have DV := hide (DX2.out.to hb)
  clear hb OW2 DX2
  have hal := (Below.refl v3.heap.size v3).alloc (Nat.le_refl _) (.cells #[.int .i64 1, .int .i64 0, .int .u64 (IntKind.u64.wrap amt), .string ⟨#[]⟩] 89)
  have HA := hide (owns_below OV.out hal)
  have DA := hide (DV.out.to hal)
  have hw5 : w.heap.size + 1 ≤ (v3.alloc (.cells #[.int .i64 1, .int .i64 0, .int .u64 (IntKind.u64.wrap amt), .string ⟨#[]⟩] 89)).heap.size := DA.out.size
  have HNEW := hide (heap_new v3 (.cells #[.int .i64 1, .int .i64 0, .int .u64 (IntKind.u64.wrap amt), .string ⟨#[]⟩] 89))
  clear hal OV DV
  go_wp2_with (at_builtin; refine wpList_append_own2 _ rfl _ _ 91 rfl (w.heap.size + 1) 89 i0 (.agg #[.int .i64 0, .int .i64 0, .int .u64 0, .string ⟨#[]⟩]) 4 40 Try.underlying91 HI.out HZ0.out HZ1.out HZ2.out rfl (by decide) (.slice (some ⟨g1, 0, none⟩) 3 c1) 3 (List.flatMap fc [⟨0, 1, 6, ⟨#[]⟩⟩, ⟨0, 8, key, ⟨#[]⟩⟩, ⟨0, 4, (IntKind.u64.wrap ref), ⟨#[]⟩⟩]) rfl HA.out ⟨v3.heap.size, 0, none⟩ 1 1 (by decide) (fc ⟨1, 0, IntKind.u64.wrap amt, ⟨#[]⟩⟩) rfl rfl (cells_new HNEW.out) (fc_one _) (by unfold maxLen; omega) (by omega) hw5 ?_; intro g2 c2 W3 ho hgr hnil; have OW3 := hide (show W3.ownsRow (w.heap.size + 1) 89 4 (.slice (some ⟨g2, 0, none⟩) 4 c2) 4 (List.flatMap fc [⟨0, 1, 6, ⟨#[]⟩⟩, ⟨0, 8, key, ⟨#[]⟩⟩, ⟨0, 4, (IntKind.u64.wrap ref), ⟨#[]⟩⟩, ⟨1, 0, IntKind.u64.wrap amt, ⟨#[]⟩⟩]) from by rw [show (List.flatMap fc [⟨0, 1, 6, ⟨#[]⟩⟩, ⟨0, 8, key, ⟨#[]⟩⟩, ⟨0, 4, (IntKind.u64.wrap ref), ⟨#[]⟩⟩, ⟨1, 0, IntKind.u64.wrap amt, ⟨#[]⟩⟩]) = List.flatMap fc [⟨0, 1, 6, ⟨#[]⟩⟩, ⟨0, 8, key, ⟨#[]⟩⟩, ⟨0, 4, (IntKind.u64.wrap ref), ⟨#[]⟩⟩] ++ fc ⟨1, 0, IntKind.u64.wrap amt, ⟨#[]⟩⟩ from by simp [List.flatMap_cons, List.append_assoc]]; exact ho); have DX3 := hide (DQ.of (DA.out.low.grown hgr DA.out.size (fun jj h => (HA.out.lt jj h).1))); clear ho hgr hnil; have e0 := cell_of_block DX3.out.box 0)
  clear HA DA HNEW hw5
  have HF := hide (flds_at (m := [⟨0, 1, 6, ⟨#[]⟩⟩, ⟨0, 8, key, ⟨#[]⟩⟩, ⟨0, 4, (IntKind.u64.wrap ref), ⟨#[]⟩⟩, ⟨1, 0, IntKind.u64.wrap amt, ⟨#[]⟩⟩]) rfl OW3.out)
  have HRF := hide (refWrite_any [⟨0, 1, 6, ⟨#[]⟩⟩, ⟨0, 8, key, ⟨#[]⟩⟩, ⟨0, 4, (IntKind.u64.wrap ref), ⟨#[]⟩⟩, ⟨1, 0, IntKind.u64.wrap amt, ⟨#[]⟩⟩] (by show 4 ≤ 1000; omega) HFQ.out.good (some ⟨g2, 0, none⟩) c2 W3 HF.out)
  rw [HFQ.out.ref.1, HFQ.out.ref.2] at HRF
  refine HRF.out.mono ?_
  rintro e w9 ⟨rfl, hb⟩
  have D9 := hide (DX3.out.to hb)
  have e0 := cell_of_block D9.out.box 0
  clear hb HRF HF OW3 DX3
  have HEN := hide (renc_end (w := w) (W := w9) HEO.out HEB.out D9.out.below)
  generalize outS ok T = S1 at *
  go_wp2_with fail
  go_ret2
  exact HEN.out
set_option maxRecDepth 100000 in
set_option maxHeartbeats 1000000 in
theorem renc_7 (key ref amt code ak : Int) (name : ByteArray) (L : List LnM) (n : Int) (hr : RqOk ⟨7, ek0, key, ref, amt, code, ak, name, L, n⟩) (hn : name.size ≤ 300) (a : Option Addr) (cap : Nat) (w : World) (hin : LnIn w a L) :
    Calls Try.prog 9 #[.agg #[.int .u8 7, .int .i64 code, .int .u8 ak, .string name, .int .u64 key, .int .i64 ref, .int .i64 amt, .int .i64 n, .slice a L.length cap]] w (RqEIs ⟨7, ek0, key, ref, amt, code, ak, name, L, n⟩ w) := by
  obtain ⟨i0, hi, hz0, hz1, hz2⟩ := info_parts (show (Try.prog.info? 89).map (fun i => (i.zero, i.size, i.bytes)) = some (some (.agg #[.int .i64 0, .int .i64 0, .int .u64 0, .string ⟨#[]⟩]), 4, 40) by kernel_rfl)
  have HI := hide hi
  have HZ0 := hide hz0
  have HZ1 := hide hz1
  have HZ2 := hide hz2
  have HR := hide hr
  have HIN := hide hin
  have H0 := fq_kind 7 (by decide)
  obtain ⟨ok, hok⟩ : ∃ ok, encOk ⟨7, ek0, key, ref, amt, code, ak, name, L, n⟩ = ok := ⟨_, rfl⟩
  obtain ⟨T, hT⟩ : ∃ T, encT ⟨7, ek0, key, ref, amt, code, ak, name, L, n⟩ = T := ⟨_, rfl⟩
  have HEO := hide hok
  have HEB := hide hT
  have HFQ := hide (show FQ [⟨0, 1, 7, ⟨#[]⟩⟩, ⟨0, 8, key, ⟨#[]⟩⟩, ⟨1, 0, IntKind.u64.wrap amt, ⟨#[]⟩⟩, ⟨0, 2, (IntKind.u64.wrap code), ⟨#[]⟩⟩] ok T from FQ.cast (((H0.num8 key HR.out.key).sig amt).num2 code HR.out.code) (show _ = ok from by rw [← hok, encOk_7 (Or.inl rfl)]; (try simp only [Bool.true_and])) (show _ = T from by rw [← hT, head_t (r := ⟨7, ek0, key, ref, amt, code, ak, name, L, n⟩) 7 _ (encB_7 (Or.inl rfl)) rfl]; (try simp only [List.append_assoc, List.append_nil]); (try rfl)))
  clear hi hz0 hz1 hz2 H0 hr hin hn hT hok
  have D0 := hide (DQ.new w #[.int .u8 7, .int .i64 code, .int .u8 ak, .string name, .int .u64 key, .int .i64 ref, .int .i64 amt, .int .i64 n, .slice a L.length cap])
  have e0 := cell_of_block D0.out.box 0
  go_enter Try.func9, Try.ntmps9
  go_wp2_with fail
  refine (rnum_any 7 1 _).mono ?_
  rintro e v0 ⟨rfl, hb⟩
  have DN := hide (D0.out.to hb)
  have hal := (Below.refl v0.heap.size v0).alloc (Nat.le_refl _) (.cells (fc ⟨0, 1, 7, ⟨#[]⟩⟩).toArray 89)
  have OW0 := hide (row_new v0 (w.heap.size + 1) DN.out.size ⟨0, 1, 7, ⟨#[]⟩⟩)
  have DX0 := hide (DN.out.to hal)
  clear D0 DN hb hal e0
  go_upto_region 4 with (fail)
  dsimp only [fc] at OW0 DX0
  generalize v0.alloc (.cells #[.int .i64 0, .int .i64 1, .int .u64 7, .string ⟨#[]⟩] 89) = W0 at *
  generalize v0.heap.size = q0 at *
  have e0 := cell_of_block DX0.out.box 0
  have e4 := cell_of_block DX0.out.box 4
  go_wp2_with fail
  refine (rnum_any (key) 8 _).mono ?_
  rintro e v1 ⟨rfl, hb⟩
  have OV := hide (owns_below OW0.out hb)
  have DV := hide (DX0.out.to hb)
  clear hb OW0 DX0
  have hal := (Below.refl v1.heap.size v1).alloc (Nat.le_refl _) (.cells #[.int .i64 0, .int .i64 8, .int .u64 key, .string ⟨#[]⟩] 89)
  have HA := hide (owns_below OV.out hal)
  have DA := hide (DV.out.to hal)
  have hw5 : w.heap.size + 1 ≤ (v1.alloc (.cells #[.int .i64 0, .int .i64 8, .int .u64 key, .string ⟨#[]⟩] 89)).heap.size := DA.out.size
  have HNEW := hide (heap_new v1 (.cells #[.int .i64 0, .int .i64 8, .int .u64 key, .string ⟨#[]⟩] 89))
  clear hal OV DV
  go_wp2_with (at_builtin; refine wpList_append_own2 _ rfl _ _ 91 rfl (w.heap.size + 1) 89 i0 (.agg #[.int .i64 0, .int .i64 0, .int .u64 0, .string ⟨#[]⟩]) 4 40 Try.underlying91 HI.out HZ0.out HZ1.out HZ2.out rfl (by decide) (.slice (some ⟨q0, 0, none⟩) 1 1) 1 (List.flatMap fc [⟨0, 1, 7, ⟨#[]⟩⟩]) rfl HA.out ⟨v1.heap.size, 0, none⟩ 1 1 (by decide) (fc ⟨0, 8, key, ⟨#[]⟩⟩) rfl rfl (cells_new HNEW.out) (fc_one _) (by unfold maxLen; omega) (by omega) hw5 ?_; intro g0 c0 W1 ho hgr hnil; have OW1 := hide (show W1.ownsRow (w.heap.size + 1) 89 4 (.slice (some ⟨g0, 0, none⟩) 2 c0) 2 (List.flatMap fc [⟨0, 1, 7, ⟨#[]⟩⟩, ⟨0, 8, key, ⟨#[]⟩⟩]) from by rw [show (List.flatMap fc [⟨0, 1, 7, ⟨#[]⟩⟩, ⟨0, 8, key, ⟨#[]⟩⟩]) = List.flatMap fc [⟨0, 1, 7, ⟨#[]⟩⟩] ++ fc ⟨0, 8, key, ⟨#[]⟩⟩ from by simp [List.flatMap_cons, List.append_assoc]]; exact ho); have DX1 := hide (DQ.of (DA.out.low.grown hgr DA.out.size (fun jj h => (HA.out.lt jj h).1))); clear ho hgr hnil; have e0 := cell_of_block DX1.out.box 0; have e6 := cell_of_block DX1.out.box 6)
  clear HA DA HNEW hw5
  refine (rsigned_any (amt) _).mono ?_
  rintro e v2 ⟨rfl, hb⟩
  have OV := hide (owns_below OW1.out hb)
  have DV := hide (DX1.out.to hb)
  clear hb OW1 DX1
  have hal := (Below.refl v2.heap.size v2).alloc (Nat.le_refl _) (.cells #[.int .i64 1, .int .i64 0, .int .u64 (IntKind.u64.wrap amt), .string ⟨#[]⟩] 89)
  have HA := hide (owns_below OV.out hal)
  have DA := hide (DV.out.to hal)
  have hw5 : w.heap.size + 1 ≤ (v2.alloc (.cells #[.int .i64 1, .int .i64 0, .int .u64 (IntKind.u64.wrap amt), .string ⟨#[]⟩] 89)).heap.size := DA.out.size
  have HNEW := hide (heap_new v2 (.cells #[.int .i64 1, .int .i64 0, .int .u64 (IntKind.u64.wrap amt), .string ⟨#[]⟩] 89))
  clear hal OV DV
  go_wp2_with (at_builtin; refine wpList_append_own2 _ rfl _ _ 91 rfl (w.heap.size + 1) 89 i0 (.agg #[.int .i64 0, .int .i64 0, .int .u64 0, .string ⟨#[]⟩]) 4 40 Try.underlying91 HI.out HZ0.out HZ1.out HZ2.out rfl (by decide) (.slice (some ⟨g0, 0, none⟩) 2 c0) 2 (List.flatMap fc [⟨0, 1, 7, ⟨#[]⟩⟩, ⟨0, 8, key, ⟨#[]⟩⟩]) rfl HA.out ⟨v2.heap.size, 0, none⟩ 1 1 (by decide) (fc ⟨1, 0, IntKind.u64.wrap amt, ⟨#[]⟩⟩) rfl rfl (cells_new HNEW.out) (fc_one _) (by unfold maxLen; omega) (by omega) hw5 ?_; intro g1 c1 W2 ho hgr hnil; have OW2 := hide (show W2.ownsRow (w.heap.size + 1) 89 4 (.slice (some ⟨g1, 0, none⟩) 3 c1) 3 (List.flatMap fc [⟨0, 1, 7, ⟨#[]⟩⟩, ⟨0, 8, key, ⟨#[]⟩⟩, ⟨1, 0, IntKind.u64.wrap amt, ⟨#[]⟩⟩]) from by rw [show (List.flatMap fc [⟨0, 1, 7, ⟨#[]⟩⟩, ⟨0, 8, key, ⟨#[]⟩⟩, ⟨1, 0, IntKind.u64.wrap amt, ⟨#[]⟩⟩]) = List.flatMap fc [⟨0, 1, 7, ⟨#[]⟩⟩, ⟨0, 8, key, ⟨#[]⟩⟩] ++ fc ⟨1, 0, IntKind.u64.wrap amt, ⟨#[]⟩⟩ from by simp [List.flatMap_cons, List.append_assoc]]; exact ho); have DX2 := hide (DQ.of (DA.out.low.grown hgr DA.out.size (fun jj h => (HA.out.lt jj h).1))); clear ho hgr hnil; have e0 := cell_of_block DX2.out.box 0; have e1 := cell_of_block DX2.out.box 1)
  clear HA DA HNEW hw5
  refine (rnum_any ((IntKind.u64.wrap code)) 2 _).mono ?_
  rintro e v3 ⟨rfl, hb⟩
  have OV := hide (owns_below OW2.out hb)
  have DV := hide (DX2.out.to hb)
  clear hb OW2 DX2
  have hal := (Below.refl v3.heap.size v3).alloc (Nat.le_refl _) (.cells #[.int .i64 0, .int .i64 2, .int .u64 (IntKind.u64.wrap code), .string ⟨#[]⟩] 89)
  have HA := hide (owns_below OV.out hal)
  have DA := hide (DV.out.to hal)
  have hw5 : w.heap.size + 1 ≤ (v3.alloc (.cells #[.int .i64 0, .int .i64 2, .int .u64 (IntKind.u64.wrap code), .string ⟨#[]⟩] 89)).heap.size := DA.out.size
  have HNEW := hide (heap_new v3 (.cells #[.int .i64 0, .int .i64 2, .int .u64 (IntKind.u64.wrap code), .string ⟨#[]⟩] 89))
  clear hal OV DV
  go_wp2_with (at_builtin; refine wpList_append_own2 _ rfl _ _ 91 rfl (w.heap.size + 1) 89 i0 (.agg #[.int .i64 0, .int .i64 0, .int .u64 0, .string ⟨#[]⟩]) 4 40 Try.underlying91 HI.out HZ0.out HZ1.out HZ2.out rfl (by decide) (.slice (some ⟨g1, 0, none⟩) 3 c1) 3 (List.flatMap fc [⟨0, 1, 7, ⟨#[]⟩⟩, ⟨0, 8, key, ⟨#[]⟩⟩, ⟨1, 0, IntKind.u64.wrap amt, ⟨#[]⟩⟩]) rfl HA.out ⟨v3.heap.size, 0, none⟩ 1 1 (by decide) (fc ⟨0, 2, (IntKind.u64.wrap code), ⟨#[]⟩⟩) rfl rfl (cells_new HNEW.out) (fc_one _) (by unfold maxLen; omega) (by omega) hw5 ?_; intro g2 c2 W3 ho hgr hnil; have OW3 := hide (show W3.ownsRow (w.heap.size + 1) 89 4 (.slice (some ⟨g2, 0, none⟩) 4 c2) 4 (List.flatMap fc [⟨0, 1, 7, ⟨#[]⟩⟩, ⟨0, 8, key, ⟨#[]⟩⟩, ⟨1, 0, IntKind.u64.wrap amt, ⟨#[]⟩⟩, ⟨0, 2, (IntKind.u64.wrap code), ⟨#[]⟩⟩]) from by rw [show (List.flatMap fc [⟨0, 1, 7, ⟨#[]⟩⟩, ⟨0, 8, key, ⟨#[]⟩⟩, ⟨1, 0, IntKind.u64.wrap amt, ⟨#[]⟩⟩, ⟨0, 2, (IntKind.u64.wrap code), ⟨#[]⟩⟩]) = List.flatMap fc [⟨0, 1, 7, ⟨#[]⟩⟩, ⟨0, 8, key, ⟨#[]⟩⟩, ⟨1, 0, IntKind.u64.wrap amt, ⟨#[]⟩⟩] ++ fc ⟨0, 2, (IntKind.u64.wrap code), ⟨#[]⟩⟩ from by simp [List.flatMap_cons, List.append_assoc]]; exact ho); have DX3 := hide (DQ.of (DA.out.low.grown hgr DA.out.size (fun jj h => (HA.out.lt jj h).1))); clear ho hgr hnil; have e0 := cell_of_block DX3.out.box 0)
  clear HA DA HNEW hw5
  have HF := hide (flds_at (m := [⟨0, 1, 7, ⟨#[]⟩⟩, ⟨0, 8, key, ⟨#[]⟩⟩, ⟨1, 0, IntKind.u64.wrap amt, ⟨#[]⟩⟩, ⟨0, 2, (IntKind.u64.wrap code), ⟨#[]⟩⟩]) rfl OW3.out)
  have HRF := hide (refWrite_any [⟨0, 1, 7, ⟨#[]⟩⟩, ⟨0, 8, key, ⟨#[]⟩⟩, ⟨1, 0, IntKind.u64.wrap amt, ⟨#[]⟩⟩, ⟨0, 2, (IntKind.u64.wrap code), ⟨#[]⟩⟩] (by show 4 ≤ 1000; omega) HFQ.out.good (some ⟨g2, 0, none⟩) c2 W3 HF.out)
  rw [HFQ.out.ref.1, HFQ.out.ref.2] at HRF
  refine HRF.out.mono ?_
  rintro e w9 ⟨rfl, hb⟩
  have D9 := hide (DX3.out.to hb)
  have e0 := cell_of_block D9.out.box 0
  clear hb HRF HF OW3 DX3
  have HEN := hide (renc_end (w := w) (W := w9) HEO.out HEB.out D9.out.below)
  generalize outS ok T = S1 at *
  go_wp2_with fail
  go_ret2
  exact HEN.out
set_option maxRecDepth 100000 in
set_option maxHeartbeats 1000000 in
theorem renc_8 (key ref amt code ak : Int) (name : ByteArray) (L : List LnM) (n : Int) (hr : RqOk ⟨8, ek0, key, ref, amt, code, ak, name, L, n⟩) (hn : name.size ≤ 300) (a : Option Addr) (cap : Nat) (w : World) (hin : LnIn w a L) :
    Calls Try.prog 9 #[.agg #[.int .u8 8, .int .i64 code, .int .u8 ak, .string name, .int .u64 key, .int .i64 ref, .int .i64 amt, .int .i64 n, .slice a L.length cap]] w (RqEIs ⟨8, ek0, key, ref, amt, code, ak, name, L, n⟩ w) := by
  obtain ⟨i0, hi, hz0, hz1, hz2⟩ := info_parts (show (Try.prog.info? 89).map (fun i => (i.zero, i.size, i.bytes)) = some (some (.agg #[.int .i64 0, .int .i64 0, .int .u64 0, .string ⟨#[]⟩]), 4, 40) by kernel_rfl)
  have HI := hide hi
  have HZ0 := hide hz0
  have HZ1 := hide hz1
  have HZ2 := hide hz2
  have HR := hide hr
  have HIN := hide hin
  have H0 := fq_kind 8 (by decide)
  obtain ⟨ok, hok⟩ : ∃ ok, encOk ⟨8, ek0, key, ref, amt, code, ak, name, L, n⟩ = ok := ⟨_, rfl⟩
  obtain ⟨T, hT⟩ : ∃ T, encT ⟨8, ek0, key, ref, amt, code, ak, name, L, n⟩ = T := ⟨_, rfl⟩
  have HEO := hide hok
  have HEB := hide hT
  have HFQ := hide (show FQ [⟨0, 1, 8, ⟨#[]⟩⟩, ⟨0, 8, key, ⟨#[]⟩⟩, ⟨1, 0, IntKind.u64.wrap amt, ⟨#[]⟩⟩, ⟨0, 2, (IntKind.u64.wrap code), ⟨#[]⟩⟩] ok T from FQ.cast (((H0.num8 key HR.out.key).sig amt).num2 code HR.out.code) (show _ = ok from by rw [← hok, encOk_7 (Or.inr rfl)]; (try simp only [Bool.true_and])) (show _ = T from by rw [← hT, head_t (r := ⟨8, ek0, key, ref, amt, code, ak, name, L, n⟩) 8 _ (encB_7 (Or.inr rfl)) rfl]; (try simp only [List.append_assoc, List.append_nil]); (try rfl)))
  clear hi hz0 hz1 hz2 H0 hr hin hn hT hok
  have D0 := hide (DQ.new w #[.int .u8 8, .int .i64 code, .int .u8 ak, .string name, .int .u64 key, .int .i64 ref, .int .i64 amt, .int .i64 n, .slice a L.length cap])
  have e0 := cell_of_block D0.out.box 0
  go_enter Try.func9, Try.ntmps9
  go_wp2_with fail
  refine (rnum_any 8 1 _).mono ?_
  rintro e v0 ⟨rfl, hb⟩
  have DN := hide (D0.out.to hb)
  have hal := (Below.refl v0.heap.size v0).alloc (Nat.le_refl _) (.cells (fc ⟨0, 1, 8, ⟨#[]⟩⟩).toArray 89)
  have OW0 := hide (row_new v0 (w.heap.size + 1) DN.out.size ⟨0, 1, 8, ⟨#[]⟩⟩)
  have DX0 := hide (DN.out.to hal)
  clear D0 DN hb hal e0
  go_upto_region 4 with (fail)
  dsimp only [fc] at OW0 DX0
  generalize v0.alloc (.cells #[.int .i64 0, .int .i64 1, .int .u64 8, .string ⟨#[]⟩] 89) = W0 at *
  generalize v0.heap.size = q0 at *
  have e0 := cell_of_block DX0.out.box 0
  have e4 := cell_of_block DX0.out.box 4
  go_wp2_with fail
  refine (rnum_any (key) 8 _).mono ?_
  rintro e v1 ⟨rfl, hb⟩
  have OV := hide (owns_below OW0.out hb)
  have DV := hide (DX0.out.to hb)
  clear hb OW0 DX0
  have hal := (Below.refl v1.heap.size v1).alloc (Nat.le_refl _) (.cells #[.int .i64 0, .int .i64 8, .int .u64 key, .string ⟨#[]⟩] 89)
  have HA := hide (owns_below OV.out hal)
  have DA := hide (DV.out.to hal)
  have hw5 : w.heap.size + 1 ≤ (v1.alloc (.cells #[.int .i64 0, .int .i64 8, .int .u64 key, .string ⟨#[]⟩] 89)).heap.size := DA.out.size
  have HNEW := hide (heap_new v1 (.cells #[.int .i64 0, .int .i64 8, .int .u64 key, .string ⟨#[]⟩] 89))
  clear hal OV DV
  go_wp2_with (at_builtin; refine wpList_append_own2 _ rfl _ _ 91 rfl (w.heap.size + 1) 89 i0 (.agg #[.int .i64 0, .int .i64 0, .int .u64 0, .string ⟨#[]⟩]) 4 40 Try.underlying91 HI.out HZ0.out HZ1.out HZ2.out rfl (by decide) (.slice (some ⟨q0, 0, none⟩) 1 1) 1 (List.flatMap fc [⟨0, 1, 8, ⟨#[]⟩⟩]) rfl HA.out ⟨v1.heap.size, 0, none⟩ 1 1 (by decide) (fc ⟨0, 8, key, ⟨#[]⟩⟩) rfl rfl (cells_new HNEW.out) (fc_one _) (by unfold maxLen; omega) (by omega) hw5 ?_; intro g0 c0 W1 ho hgr hnil; have OW1 := hide (show W1.ownsRow (w.heap.size + 1) 89 4 (.slice (some ⟨g0, 0, none⟩) 2 c0) 2 (List.flatMap fc [⟨0, 1, 8, ⟨#[]⟩⟩, ⟨0, 8, key, ⟨#[]⟩⟩]) from by rw [show (List.flatMap fc [⟨0, 1, 8, ⟨#[]⟩⟩, ⟨0, 8, key, ⟨#[]⟩⟩]) = List.flatMap fc [⟨0, 1, 8, ⟨#[]⟩⟩] ++ fc ⟨0, 8, key, ⟨#[]⟩⟩ from by simp [List.flatMap_cons, List.append_assoc]]; exact ho); have DX1 := hide (DQ.of (DA.out.low.grown hgr DA.out.size (fun jj h => (HA.out.lt jj h).1))); clear ho hgr hnil; have e0 := cell_of_block DX1.out.box 0; have e6 := cell_of_block DX1.out.box 6)
  clear HA DA HNEW hw5
  refine (rsigned_any (amt) _).mono ?_
  rintro e v2 ⟨rfl, hb⟩
  have OV := hide (owns_below OW1.out hb)
  have DV := hide (DX1.out.to hb)
  clear hb OW1 DX1
  have hal := (Below.refl v2.heap.size v2).alloc (Nat.le_refl _) (.cells #[.int .i64 1, .int .i64 0, .int .u64 (IntKind.u64.wrap amt), .string ⟨#[]⟩] 89)
  have HA := hide (owns_below OV.out hal)
  have DA := hide (DV.out.to hal)
  have hw5 : w.heap.size + 1 ≤ (v2.alloc (.cells #[.int .i64 1, .int .i64 0, .int .u64 (IntKind.u64.wrap amt), .string ⟨#[]⟩] 89)).heap.size := DA.out.size
  have HNEW := hide (heap_new v2 (.cells #[.int .i64 1, .int .i64 0, .int .u64 (IntKind.u64.wrap amt), .string ⟨#[]⟩] 89))
  clear hal OV DV
  go_wp2_with (at_builtin; refine wpList_append_own2 _ rfl _ _ 91 rfl (w.heap.size + 1) 89 i0 (.agg #[.int .i64 0, .int .i64 0, .int .u64 0, .string ⟨#[]⟩]) 4 40 Try.underlying91 HI.out HZ0.out HZ1.out HZ2.out rfl (by decide) (.slice (some ⟨g0, 0, none⟩) 2 c0) 2 (List.flatMap fc [⟨0, 1, 8, ⟨#[]⟩⟩, ⟨0, 8, key, ⟨#[]⟩⟩]) rfl HA.out ⟨v2.heap.size, 0, none⟩ 1 1 (by decide) (fc ⟨1, 0, IntKind.u64.wrap amt, ⟨#[]⟩⟩) rfl rfl (cells_new HNEW.out) (fc_one _) (by unfold maxLen; omega) (by omega) hw5 ?_; intro g1 c1 W2 ho hgr hnil; have OW2 := hide (show W2.ownsRow (w.heap.size + 1) 89 4 (.slice (some ⟨g1, 0, none⟩) 3 c1) 3 (List.flatMap fc [⟨0, 1, 8, ⟨#[]⟩⟩, ⟨0, 8, key, ⟨#[]⟩⟩, ⟨1, 0, IntKind.u64.wrap amt, ⟨#[]⟩⟩]) from by rw [show (List.flatMap fc [⟨0, 1, 8, ⟨#[]⟩⟩, ⟨0, 8, key, ⟨#[]⟩⟩, ⟨1, 0, IntKind.u64.wrap amt, ⟨#[]⟩⟩]) = List.flatMap fc [⟨0, 1, 8, ⟨#[]⟩⟩, ⟨0, 8, key, ⟨#[]⟩⟩] ++ fc ⟨1, 0, IntKind.u64.wrap amt, ⟨#[]⟩⟩ from by simp [List.flatMap_cons, List.append_assoc]]; exact ho); have DX2 := hide (DQ.of (DA.out.low.grown hgr DA.out.size (fun jj h => (HA.out.lt jj h).1))); clear ho hgr hnil; have e0 := cell_of_block DX2.out.box 0; have e1 := cell_of_block DX2.out.box 1)
  clear HA DA HNEW hw5
  refine (rnum_any ((IntKind.u64.wrap code)) 2 _).mono ?_
  rintro e v3 ⟨rfl, hb⟩
  have OV := hide (owns_below OW2.out hb)
  have DV := hide (DX2.out.to hb)
  clear hb OW2 DX2
  have hal := (Below.refl v3.heap.size v3).alloc (Nat.le_refl _) (.cells #[.int .i64 0, .int .i64 2, .int .u64 (IntKind.u64.wrap code), .string ⟨#[]⟩] 89)
  have HA := hide (owns_below OV.out hal)
  have DA := hide (DV.out.to hal)
  have hw5 : w.heap.size + 1 ≤ (v3.alloc (.cells #[.int .i64 0, .int .i64 2, .int .u64 (IntKind.u64.wrap code), .string ⟨#[]⟩] 89)).heap.size := DA.out.size
  have HNEW := hide (heap_new v3 (.cells #[.int .i64 0, .int .i64 2, .int .u64 (IntKind.u64.wrap code), .string ⟨#[]⟩] 89))
  clear hal OV DV
  go_wp2_with (at_builtin; refine wpList_append_own2 _ rfl _ _ 91 rfl (w.heap.size + 1) 89 i0 (.agg #[.int .i64 0, .int .i64 0, .int .u64 0, .string ⟨#[]⟩]) 4 40 Try.underlying91 HI.out HZ0.out HZ1.out HZ2.out rfl (by decide) (.slice (some ⟨g1, 0, none⟩) 3 c1) 3 (List.flatMap fc [⟨0, 1, 8, ⟨#[]⟩⟩, ⟨0, 8, key, ⟨#[]⟩⟩, ⟨1, 0, IntKind.u64.wrap amt, ⟨#[]⟩⟩]) rfl HA.out ⟨v3.heap.size, 0, none⟩ 1 1 (by decide) (fc ⟨0, 2, (IntKind.u64.wrap code), ⟨#[]⟩⟩) rfl rfl (cells_new HNEW.out) (fc_one _) (by unfold maxLen; omega) (by omega) hw5 ?_; intro g2 c2 W3 ho hgr hnil; have OW3 := hide (show W3.ownsRow (w.heap.size + 1) 89 4 (.slice (some ⟨g2, 0, none⟩) 4 c2) 4 (List.flatMap fc [⟨0, 1, 8, ⟨#[]⟩⟩, ⟨0, 8, key, ⟨#[]⟩⟩, ⟨1, 0, IntKind.u64.wrap amt, ⟨#[]⟩⟩, ⟨0, 2, (IntKind.u64.wrap code), ⟨#[]⟩⟩]) from by rw [show (List.flatMap fc [⟨0, 1, 8, ⟨#[]⟩⟩, ⟨0, 8, key, ⟨#[]⟩⟩, ⟨1, 0, IntKind.u64.wrap amt, ⟨#[]⟩⟩, ⟨0, 2, (IntKind.u64.wrap code), ⟨#[]⟩⟩]) = List.flatMap fc [⟨0, 1, 8, ⟨#[]⟩⟩, ⟨0, 8, key, ⟨#[]⟩⟩, ⟨1, 0, IntKind.u64.wrap amt, ⟨#[]⟩⟩] ++ fc ⟨0, 2, (IntKind.u64.wrap code), ⟨#[]⟩⟩ from by simp [List.flatMap_cons, List.append_assoc]]; exact ho); have DX3 := hide (DQ.of (DA.out.low.grown hgr DA.out.size (fun jj h => (HA.out.lt jj h).1))); clear ho hgr hnil; have e0 := cell_of_block DX3.out.box 0)
  clear HA DA HNEW hw5
  have HF := hide (flds_at (m := [⟨0, 1, 8, ⟨#[]⟩⟩, ⟨0, 8, key, ⟨#[]⟩⟩, ⟨1, 0, IntKind.u64.wrap amt, ⟨#[]⟩⟩, ⟨0, 2, (IntKind.u64.wrap code), ⟨#[]⟩⟩]) rfl OW3.out)
  have HRF := hide (refWrite_any [⟨0, 1, 8, ⟨#[]⟩⟩, ⟨0, 8, key, ⟨#[]⟩⟩, ⟨1, 0, IntKind.u64.wrap amt, ⟨#[]⟩⟩, ⟨0, 2, (IntKind.u64.wrap code), ⟨#[]⟩⟩] (by show 4 ≤ 1000; omega) HFQ.out.good (some ⟨g2, 0, none⟩) c2 W3 HF.out)
  rw [HFQ.out.ref.1, HFQ.out.ref.2] at HRF
  refine HRF.out.mono ?_
  rintro e w9 ⟨rfl, hb⟩
  have D9 := hide (DX3.out.to hb)
  have e0 := cell_of_block D9.out.box 0
  clear hb HRF HF OW3 DX3
  have HEN := hide (renc_end (w := w) (W := w9) HEO.out HEB.out D9.out.below)
  generalize outS ok T = S1 at *
  go_wp2_with fail
  go_ret2
  exact HEN.out
set_option maxRecDepth 100000 in
set_option maxHeartbeats 1000000 in
theorem renc_9 (key ref amt code ak : Int) (name : ByteArray) (L : List LnM) (n : Int) (hr : RqOk ⟨9, ek0, key, ref, amt, code, ak, name, L, n⟩) (hn : name.size ≤ 300) (a : Option Addr) (cap : Nat) (w : World) (hin : LnIn w a L) :
    Calls Try.prog 9 #[.agg #[.int .u8 9, .int .i64 code, .int .u8 ak, .string name, .int .u64 key, .int .i64 ref, .int .i64 amt, .int .i64 n, .slice a L.length cap]] w (RqEIs ⟨9, ek0, key, ref, amt, code, ak, name, L, n⟩ w) := by
  obtain ⟨i0, hi, hz0, hz1, hz2⟩ := info_parts (show (Try.prog.info? 89).map (fun i => (i.zero, i.size, i.bytes)) = some (some (.agg #[.int .i64 0, .int .i64 0, .int .u64 0, .string ⟨#[]⟩]), 4, 40) by kernel_rfl)
  have HI := hide hi
  have HZ0 := hide hz0
  have HZ1 := hide hz1
  have HZ2 := hide hz2
  have HR := hide hr
  have HIN := hide hin
  have H0 := fq_kind 9 (by decide)
  obtain ⟨T, hT⟩ : ∃ T, putL 9 1 ++ putL key.toNat 8 = T := ⟨_, rfl⟩
  have HT := hide hT
  have HFQ := hide (show FQ [⟨0, 1, 9, ⟨#[]⟩⟩, ⟨0, 8, key, ⟨#[]⟩⟩] true T from FQ.cast (H0.num8 key HR.out.key) rfl (show _ = T from hT))
  have HEO := hide (show encOk ⟨9, ek0, key, ref, amt, code, ak, name, L, n⟩ = textOk L from encOk_4 (Or.inr rfl))
  have HEB := hide (show encT ⟨9, ek0, key, ref, amt, code, ak, name, L, n⟩ = T ++ poT L from by rw [head_t (r := ⟨9, ek0, key, ref, amt, code, ak, name, L, n⟩) 9 _ (encB_4 (Or.inr rfl)) rfl, ← hT, List.append_assoc])
  clear hi hz0 hz1 hz2 H0 hr hin hn hT
  have D0 := hide (DQ.new w #[.int .u8 9, .int .i64 code, .int .u8 ak, .string name, .int .u64 key, .int .i64 ref, .int .i64 amt, .int .i64 n, .slice a L.length cap])
  have e0 := cell_of_block D0.out.box 0
  go_enter Try.func9, Try.ntmps9
  go_wp2_with fail
  refine (rnum_any 9 1 _).mono ?_
  rintro e v0 ⟨rfl, hb⟩
  have DN := hide (D0.out.to hb)
  have hal := (Below.refl v0.heap.size v0).alloc (Nat.le_refl _) (.cells (fc ⟨0, 1, 9, ⟨#[]⟩⟩).toArray 89)
  have OW0 := hide (row_new v0 (w.heap.size + 1) DN.out.size ⟨0, 1, 9, ⟨#[]⟩⟩)
  have DX0 := hide (DN.out.to hal)
  clear D0 DN hb hal e0
  go_upto_region 4 with (fail)
  dsimp only [fc] at OW0 DX0
  generalize v0.alloc (.cells #[.int .i64 0, .int .i64 1, .int .u64 9, .string ⟨#[]⟩] 89) = W0 at *
  generalize v0.heap.size = q0 at *
  have e0 := cell_of_block DX0.out.box 0
  have e4 := cell_of_block DX0.out.box 4
  go_wp2_with fail
  refine (rnum_any (key) 8 _).mono ?_
  rintro e v1 ⟨rfl, hb⟩
  have OV := hide (owns_below OW0.out hb)
  have DV := hide (DX0.out.to hb)
  clear hb OW0 DX0
  have hal := (Below.refl v1.heap.size v1).alloc (Nat.le_refl _) (.cells #[.int .i64 0, .int .i64 8, .int .u64 key, .string ⟨#[]⟩] 89)
  have HA := hide (owns_below OV.out hal)
  have DA := hide (DV.out.to hal)
  have hw5 : w.heap.size + 1 ≤ (v1.alloc (.cells #[.int .i64 0, .int .i64 8, .int .u64 key, .string ⟨#[]⟩] 89)).heap.size := DA.out.size
  have HNEW := hide (heap_new v1 (.cells #[.int .i64 0, .int .i64 8, .int .u64 key, .string ⟨#[]⟩] 89))
  clear hal OV DV
  go_wp2_with (at_builtin; refine wpList_append_own2 _ rfl _ _ 91 rfl (w.heap.size + 1) 89 i0 (.agg #[.int .i64 0, .int .i64 0, .int .u64 0, .string ⟨#[]⟩]) 4 40 Try.underlying91 HI.out HZ0.out HZ1.out HZ2.out rfl (by decide) (.slice (some ⟨q0, 0, none⟩) 1 1) 1 (List.flatMap fc [⟨0, 1, 9, ⟨#[]⟩⟩]) rfl HA.out ⟨v1.heap.size, 0, none⟩ 1 1 (by decide) (fc ⟨0, 8, key, ⟨#[]⟩⟩) rfl rfl (cells_new HNEW.out) (fc_one _) (by unfold maxLen; omega) (by omega) hw5 ?_; intro g0 c0 W1 ho hgr hnil; have OW1 := hide (show W1.ownsRow (w.heap.size + 1) 89 4 (.slice (some ⟨g0, 0, none⟩) 2 c0) 2 (List.flatMap fc [⟨0, 1, 9, ⟨#[]⟩⟩, ⟨0, 8, key, ⟨#[]⟩⟩]) from by rw [show (List.flatMap fc [⟨0, 1, 9, ⟨#[]⟩⟩, ⟨0, 8, key, ⟨#[]⟩⟩]) = List.flatMap fc [⟨0, 1, 9, ⟨#[]⟩⟩] ++ fc ⟨0, 8, key, ⟨#[]⟩⟩ from by simp [List.flatMap_cons, List.append_assoc]]; exact ho); have DX1 := hide (DQ.of (DA.out.low.grown hgr DA.out.size (fun jj h => (HA.out.lt jj h).1))); clear ho hgr hnil; have e0 := cell_of_block DX1.out.box 0)
  clear HA DA HNEW hw5
  have HF := hide (flds_at (m := [⟨0, 1, 9, ⟨#[]⟩⟩, ⟨0, 8, key, ⟨#[]⟩⟩]) rfl OW1.out)
  have HRF := hide (refWrite_any [⟨0, 1, 9, ⟨#[]⟩⟩, ⟨0, 8, key, ⟨#[]⟩⟩] (by show 2 ≤ 1000; omega) HFQ.out.good (some ⟨g0, 0, none⟩) c0 W1 HF.out)
  rw [HFQ.out.ref.1, HFQ.out.ref.2] at HRF
  refine HRF.out.mono ?_
  rintro e w9 ⟨rfl, hb⟩
  have D9 := hide (DX1.out.to hb)
  have e0 := cell_of_block D9.out.box 0
  clear hb HRF HF OW1 DX1
  have e8 := cell_of_block D9.out.box 8
  have HTX := hide (rptext L HR.out.few HR.out.L a cap w9 (HIN.out.below D9.out.below))
  go_wp2_with fail
  refine HTX.out.mono ?_
  rintro e w10 ⟨rfl, hb⟩
  have B10 := hide (D9.out.to hb).below
  clear hb HTX D9 e0 e8
  by_cases htx : textOk L = true
  · have HEN := hide (renc_cat (HEO.out.trans htx) HEB.out htx B10.out)
    have hsz : ¬ 9223372036854775807 < (outS true T).size + (txtS L).size := txt_small HT.out HR.out.few
    generalize txtS L = S at *
    generalize outS true T = S1 at *
    rw [htx]
    clear htx
    go_wp2_with fail
    go_ret2
    exact HEN.out
  · have htf : textOk L = false := by simpa using htx
    have HEN := hide (renc_no (HEO.out.trans htf) B10.out)
    generalize txtS L = S at *
    rw [htf]
    clear htx htf
    go_wp2_with fail
    go_ret2
    exact HEN.out
set_option maxRecDepth 100000 in
set_option maxHeartbeats 1000000 in
theorem renc_10 (key ref amt code ak : Int) (name : ByteArray) (L : List LnM) (n : Int) (hr : RqOk ⟨10, ek0, key, ref, amt, code, ak, name, L, n⟩) (hn : name.size ≤ 300) (a : Option Addr) (cap : Nat) (w : World) (hin : LnIn w a L) :
    Calls Try.prog 9 #[.agg #[.int .u8 10, .int .i64 code, .int .u8 ak, .string name, .int .u64 key, .int .i64 ref, .int .i64 amt, .int .i64 n, .slice a L.length cap]] w (RqEIs ⟨10, ek0, key, ref, amt, code, ak, name, L, n⟩ w) := by
  obtain ⟨i0, hi, hz0, hz1, hz2⟩ := info_parts (show (Try.prog.info? 89).map (fun i => (i.zero, i.size, i.bytes)) = some (some (.agg #[.int .i64 0, .int .i64 0, .int .u64 0, .string ⟨#[]⟩]), 4, 40) by kernel_rfl)
  have HI := hide hi
  have HZ0 := hide hz0
  have HZ1 := hide hz1
  have HZ2 := hide hz2
  have HR := hide hr
  have HIN := hide hin
  have H0 := fq_kind 10 (by decide)
  obtain ⟨ok, hok⟩ : ∃ ok, encOk ⟨10, ek0, key, ref, amt, code, ak, name, L, n⟩ = ok := ⟨_, rfl⟩
  obtain ⟨T, hT⟩ : ∃ T, encT ⟨10, ek0, key, ref, amt, code, ak, name, L, n⟩ = T := ⟨_, rfl⟩
  have HEO := hide hok
  have HEB := hide hT
  have HFQ := hide (show FQ [⟨0, 1, 10, ⟨#[]⟩⟩, ⟨0, 2, (IntKind.u64.wrap n), ⟨#[]⟩⟩] ok T from FQ.cast (H0.num2 n HR.out.n) (show _ = ok from by rw [← hok, encOk_10 rfl]; (try simp only [Bool.true_and])) (show _ = T from by rw [← hT, head_t (r := ⟨10, ek0, key, ref, amt, code, ak, name, L, n⟩) 10 _ (encB_10 rfl) rfl]; (try simp only [List.append_assoc, List.append_nil]); (try rfl)))
  clear hi hz0 hz1 hz2 H0 hr hin hn hT hok
  have D0 := hide (DQ.new w #[.int .u8 10, .int .i64 code, .int .u8 ak, .string name, .int .u64 key, .int .i64 ref, .int .i64 amt, .int .i64 n, .slice a L.length cap])
  have e0 := cell_of_block D0.out.box 0
  go_enter Try.func9, Try.ntmps9
  go_wp2_with fail
  refine (rnum_any 10 1 _).mono ?_
  rintro e v0 ⟨rfl, hb⟩
  have DN := hide (D0.out.to hb)
  have hal := (Below.refl v0.heap.size v0).alloc (Nat.le_refl _) (.cells (fc ⟨0, 1, 10, ⟨#[]⟩⟩).toArray 89)
  have OW0 := hide (row_new v0 (w.heap.size + 1) DN.out.size ⟨0, 1, 10, ⟨#[]⟩⟩)
  have DX0 := hide (DN.out.to hal)
  clear D0 DN hb hal e0
  go_upto_region 4 with (fail)
  dsimp only [fc] at OW0 DX0
  generalize v0.alloc (.cells #[.int .i64 0, .int .i64 1, .int .u64 10, .string ⟨#[]⟩] 89) = W0 at *
  generalize v0.heap.size = q0 at *
  have e0 := cell_of_block DX0.out.box 0
  have e7 := cell_of_block DX0.out.box 7
  go_wp2_with fail
  refine (rnum_any ((IntKind.u64.wrap n)) 2 _).mono ?_
  rintro e v1 ⟨rfl, hb⟩
  have OV := hide (owns_below OW0.out hb)
  have DV := hide (DX0.out.to hb)
  clear hb OW0 DX0
  have hal := (Below.refl v1.heap.size v1).alloc (Nat.le_refl _) (.cells #[.int .i64 0, .int .i64 2, .int .u64 (IntKind.u64.wrap n), .string ⟨#[]⟩] 89)
  have HA := hide (owns_below OV.out hal)
  have DA := hide (DV.out.to hal)
  have hw5 : w.heap.size + 1 ≤ (v1.alloc (.cells #[.int .i64 0, .int .i64 2, .int .u64 (IntKind.u64.wrap n), .string ⟨#[]⟩] 89)).heap.size := DA.out.size
  have HNEW := hide (heap_new v1 (.cells #[.int .i64 0, .int .i64 2, .int .u64 (IntKind.u64.wrap n), .string ⟨#[]⟩] 89))
  clear hal OV DV
  go_wp2_with (at_builtin; refine wpList_append_own2 _ rfl _ _ 91 rfl (w.heap.size + 1) 89 i0 (.agg #[.int .i64 0, .int .i64 0, .int .u64 0, .string ⟨#[]⟩]) 4 40 Try.underlying91 HI.out HZ0.out HZ1.out HZ2.out rfl (by decide) (.slice (some ⟨q0, 0, none⟩) 1 1) 1 (List.flatMap fc [⟨0, 1, 10, ⟨#[]⟩⟩]) rfl HA.out ⟨v1.heap.size, 0, none⟩ 1 1 (by decide) (fc ⟨0, 2, (IntKind.u64.wrap n), ⟨#[]⟩⟩) rfl rfl (cells_new HNEW.out) (fc_one _) (by unfold maxLen; omega) (by omega) hw5 ?_; intro g0 c0 W1 ho hgr hnil; have OW1 := hide (show W1.ownsRow (w.heap.size + 1) 89 4 (.slice (some ⟨g0, 0, none⟩) 2 c0) 2 (List.flatMap fc [⟨0, 1, 10, ⟨#[]⟩⟩, ⟨0, 2, (IntKind.u64.wrap n), ⟨#[]⟩⟩]) from by rw [show (List.flatMap fc [⟨0, 1, 10, ⟨#[]⟩⟩, ⟨0, 2, (IntKind.u64.wrap n), ⟨#[]⟩⟩]) = List.flatMap fc [⟨0, 1, 10, ⟨#[]⟩⟩] ++ fc ⟨0, 2, (IntKind.u64.wrap n), ⟨#[]⟩⟩ from by simp [List.flatMap_cons, List.append_assoc]]; exact ho); have DX1 := hide (DQ.of (DA.out.low.grown hgr DA.out.size (fun jj h => (HA.out.lt jj h).1))); clear ho hgr hnil; have e0 := cell_of_block DX1.out.box 0)
  clear HA DA HNEW hw5
  have HF := hide (flds_at (m := [⟨0, 1, 10, ⟨#[]⟩⟩, ⟨0, 2, (IntKind.u64.wrap n), ⟨#[]⟩⟩]) rfl OW1.out)
  have HRF := hide (refWrite_any [⟨0, 1, 10, ⟨#[]⟩⟩, ⟨0, 2, (IntKind.u64.wrap n), ⟨#[]⟩⟩] (by show 2 ≤ 1000; omega) HFQ.out.good (some ⟨g0, 0, none⟩) c0 W1 HF.out)
  rw [HFQ.out.ref.1, HFQ.out.ref.2] at HRF
  refine HRF.out.mono ?_
  rintro e w9 ⟨rfl, hb⟩
  have D9 := hide (DX1.out.to hb)
  have e0 := cell_of_block D9.out.box 0
  clear hb HRF HF OW1 DX1
  have HEN := hide (renc_end (w := w) (W := w9) HEO.out HEB.out D9.out.below)
  generalize outS ok T = S1 at *
  go_wp2_with fail
  go_ret2
  exact HEN.out
set_option maxRecDepth 100000 in
set_option maxHeartbeats 1000000 in
theorem renc_11 (key ref amt code ak : Int) (name : ByteArray) (L : List LnM) (n : Int) (hr : RqOk ⟨11, ek0, key, ref, amt, code, ak, name, L, n⟩) (hn : name.size ≤ 300) (a : Option Addr) (cap : Nat) (w : World) (hin : LnIn w a L) :
    Calls Try.prog 9 #[.agg #[.int .u8 11, .int .i64 code, .int .u8 ak, .string name, .int .u64 key, .int .i64 ref, .int .i64 amt, .int .i64 n, .slice a L.length cap]] w (RqEIs ⟨11, ek0, key, ref, amt, code, ak, name, L, n⟩ w) := by
  obtain ⟨i0, hi, hz0, hz1, hz2⟩ := info_parts (show (Try.prog.info? 89).map (fun i => (i.zero, i.size, i.bytes)) = some (some (.agg #[.int .i64 0, .int .i64 0, .int .u64 0, .string ⟨#[]⟩]), 4, 40) by kernel_rfl)
  have HI := hide hi
  have HZ0 := hide hz0
  have HZ1 := hide hz1
  have HZ2 := hide hz2
  have HR := hide hr
  have HIN := hide hin
  have H0 := fq_kind 11 (by decide)
  obtain ⟨ok, hok⟩ : ∃ ok, encOk ⟨11, ek0, key, ref, amt, code, ak, name, L, n⟩ = ok := ⟨_, rfl⟩
  obtain ⟨T, hT⟩ : ∃ T, encT ⟨11, ek0, key, ref, amt, code, ak, name, L, n⟩ = T := ⟨_, rfl⟩
  have HEO := hide hok
  have HEB := hide hT
  have HFQ := hide (show FQ [⟨0, 1, 11, ⟨#[]⟩⟩, ⟨0, 4, (IntKind.u64.wrap n), ⟨#[]⟩⟩] ok T from FQ.cast (H0.num4 n HR.out.n) (show _ = ok from by rw [← hok, encOk_11 (Or.inl rfl)]; (try simp only [Bool.true_and])) (show _ = T from by rw [← hT, head_t (r := ⟨11, ek0, key, ref, amt, code, ak, name, L, n⟩) 11 _ (encB_11 (Or.inl rfl)) rfl]; (try simp only [List.append_assoc, List.append_nil]); (try rfl)))
  clear hi hz0 hz1 hz2 H0 hr hin hn hT hok
  have D0 := hide (DQ.new w #[.int .u8 11, .int .i64 code, .int .u8 ak, .string name, .int .u64 key, .int .i64 ref, .int .i64 amt, .int .i64 n, .slice a L.length cap])
  have e0 := cell_of_block D0.out.box 0
  go_enter Try.func9, Try.ntmps9
  go_wp2_with fail
  refine (rnum_any 11 1 _).mono ?_
  rintro e v0 ⟨rfl, hb⟩
  have DN := hide (D0.out.to hb)
  have hal := (Below.refl v0.heap.size v0).alloc (Nat.le_refl _) (.cells (fc ⟨0, 1, 11, ⟨#[]⟩⟩).toArray 89)
  have OW0 := hide (row_new v0 (w.heap.size + 1) DN.out.size ⟨0, 1, 11, ⟨#[]⟩⟩)
  have DX0 := hide (DN.out.to hal)
  clear D0 DN hb hal e0
  go_upto_region 4 with (fail)
  dsimp only [fc] at OW0 DX0
  generalize v0.alloc (.cells #[.int .i64 0, .int .i64 1, .int .u64 11, .string ⟨#[]⟩] 89) = W0 at *
  generalize v0.heap.size = q0 at *
  have e0 := cell_of_block DX0.out.box 0
  have e7 := cell_of_block DX0.out.box 7
  go_wp2_with fail
  refine (rnum_any ((IntKind.u64.wrap n)) 4 _).mono ?_
  rintro e v1 ⟨rfl, hb⟩
  have OV := hide (owns_below OW0.out hb)
  have DV := hide (DX0.out.to hb)
  clear hb OW0 DX0
  have hal := (Below.refl v1.heap.size v1).alloc (Nat.le_refl _) (.cells #[.int .i64 0, .int .i64 4, .int .u64 (IntKind.u64.wrap n), .string ⟨#[]⟩] 89)
  have HA := hide (owns_below OV.out hal)
  have DA := hide (DV.out.to hal)
  have hw5 : w.heap.size + 1 ≤ (v1.alloc (.cells #[.int .i64 0, .int .i64 4, .int .u64 (IntKind.u64.wrap n), .string ⟨#[]⟩] 89)).heap.size := DA.out.size
  have HNEW := hide (heap_new v1 (.cells #[.int .i64 0, .int .i64 4, .int .u64 (IntKind.u64.wrap n), .string ⟨#[]⟩] 89))
  clear hal OV DV
  go_wp2_with (at_builtin; refine wpList_append_own2 _ rfl _ _ 91 rfl (w.heap.size + 1) 89 i0 (.agg #[.int .i64 0, .int .i64 0, .int .u64 0, .string ⟨#[]⟩]) 4 40 Try.underlying91 HI.out HZ0.out HZ1.out HZ2.out rfl (by decide) (.slice (some ⟨q0, 0, none⟩) 1 1) 1 (List.flatMap fc [⟨0, 1, 11, ⟨#[]⟩⟩]) rfl HA.out ⟨v1.heap.size, 0, none⟩ 1 1 (by decide) (fc ⟨0, 4, (IntKind.u64.wrap n), ⟨#[]⟩⟩) rfl rfl (cells_new HNEW.out) (fc_one _) (by unfold maxLen; omega) (by omega) hw5 ?_; intro g0 c0 W1 ho hgr hnil; have OW1 := hide (show W1.ownsRow (w.heap.size + 1) 89 4 (.slice (some ⟨g0, 0, none⟩) 2 c0) 2 (List.flatMap fc [⟨0, 1, 11, ⟨#[]⟩⟩, ⟨0, 4, (IntKind.u64.wrap n), ⟨#[]⟩⟩]) from by rw [show (List.flatMap fc [⟨0, 1, 11, ⟨#[]⟩⟩, ⟨0, 4, (IntKind.u64.wrap n), ⟨#[]⟩⟩]) = List.flatMap fc [⟨0, 1, 11, ⟨#[]⟩⟩] ++ fc ⟨0, 4, (IntKind.u64.wrap n), ⟨#[]⟩⟩ from by simp [List.flatMap_cons, List.append_assoc]]; exact ho); have DX1 := hide (DQ.of (DA.out.low.grown hgr DA.out.size (fun jj h => (HA.out.lt jj h).1))); clear ho hgr hnil; have e0 := cell_of_block DX1.out.box 0)
  clear HA DA HNEW hw5
  have HF := hide (flds_at (m := [⟨0, 1, 11, ⟨#[]⟩⟩, ⟨0, 4, (IntKind.u64.wrap n), ⟨#[]⟩⟩]) rfl OW1.out)
  have HRF := hide (refWrite_any [⟨0, 1, 11, ⟨#[]⟩⟩, ⟨0, 4, (IntKind.u64.wrap n), ⟨#[]⟩⟩] (by show 2 ≤ 1000; omega) HFQ.out.good (some ⟨g0, 0, none⟩) c0 W1 HF.out)
  rw [HFQ.out.ref.1, HFQ.out.ref.2] at HRF
  refine HRF.out.mono ?_
  rintro e w9 ⟨rfl, hb⟩
  have D9 := hide (DX1.out.to hb)
  have e0 := cell_of_block D9.out.box 0
  clear hb HRF HF OW1 DX1
  have HEN := hide (renc_end (w := w) (W := w9) HEO.out HEB.out D9.out.below)
  generalize outS ok T = S1 at *
  go_wp2_with fail
  go_ret2
  exact HEN.out
set_option maxRecDepth 100000 in
set_option maxHeartbeats 1000000 in
theorem renc_12 (key ref amt code ak : Int) (name : ByteArray) (L : List LnM) (n : Int) (hr : RqOk ⟨12, ek0, key, ref, amt, code, ak, name, L, n⟩) (hn : name.size ≤ 300) (a : Option Addr) (cap : Nat) (w : World) (hin : LnIn w a L) :
    Calls Try.prog 9 #[.agg #[.int .u8 12, .int .i64 code, .int .u8 ak, .string name, .int .u64 key, .int .i64 ref, .int .i64 amt, .int .i64 n, .slice a L.length cap]] w (RqEIs ⟨12, ek0, key, ref, amt, code, ak, name, L, n⟩ w) := by
  obtain ⟨i0, hi, hz0, hz1, hz2⟩ := info_parts (show (Try.prog.info? 89).map (fun i => (i.zero, i.size, i.bytes)) = some (some (.agg #[.int .i64 0, .int .i64 0, .int .u64 0, .string ⟨#[]⟩]), 4, 40) by kernel_rfl)
  have HI := hide hi
  have HZ0 := hide hz0
  have HZ1 := hide hz1
  have HZ2 := hide hz2
  have HR := hide hr
  have HIN := hide hin
  have H0 := fq_kind 12 (by decide)
  obtain ⟨ok, hok⟩ : ∃ ok, encOk ⟨12, ek0, key, ref, amt, code, ak, name, L, n⟩ = ok := ⟨_, rfl⟩
  obtain ⟨T, hT⟩ : ∃ T, encT ⟨12, ek0, key, ref, amt, code, ak, name, L, n⟩ = T := ⟨_, rfl⟩
  have HEO := hide hok
  have HEB := hide hT
  have HFQ := hide (show FQ [⟨0, 1, 12, ⟨#[]⟩⟩, ⟨0, 4, (IntKind.u64.wrap n), ⟨#[]⟩⟩] ok T from FQ.cast (H0.num4 n HR.out.n) (show _ = ok from by rw [← hok, encOk_11 (Or.inr rfl)]; (try simp only [Bool.true_and])) (show _ = T from by rw [← hT, head_t (r := ⟨12, ek0, key, ref, amt, code, ak, name, L, n⟩) 12 _ (encB_11 (Or.inr rfl)) rfl]; (try simp only [List.append_assoc, List.append_nil]); (try rfl)))
  clear hi hz0 hz1 hz2 H0 hr hin hn hT hok
  have D0 := hide (DQ.new w #[.int .u8 12, .int .i64 code, .int .u8 ak, .string name, .int .u64 key, .int .i64 ref, .int .i64 amt, .int .i64 n, .slice a L.length cap])
  have e0 := cell_of_block D0.out.box 0
  go_enter Try.func9, Try.ntmps9
  go_wp2_with fail
  refine (rnum_any 12 1 _).mono ?_
  rintro e v0 ⟨rfl, hb⟩
  have DN := hide (D0.out.to hb)
  have hal := (Below.refl v0.heap.size v0).alloc (Nat.le_refl _) (.cells (fc ⟨0, 1, 12, ⟨#[]⟩⟩).toArray 89)
  have OW0 := hide (row_new v0 (w.heap.size + 1) DN.out.size ⟨0, 1, 12, ⟨#[]⟩⟩)
  have DX0 := hide (DN.out.to hal)
  clear D0 DN hb hal e0
  go_upto_region 4 with (fail)
  dsimp only [fc] at OW0 DX0
  generalize v0.alloc (.cells #[.int .i64 0, .int .i64 1, .int .u64 12, .string ⟨#[]⟩] 89) = W0 at *
  generalize v0.heap.size = q0 at *
  have e0 := cell_of_block DX0.out.box 0
  have e7 := cell_of_block DX0.out.box 7
  go_wp2_with fail
  refine (rnum_any ((IntKind.u64.wrap n)) 4 _).mono ?_
  rintro e v1 ⟨rfl, hb⟩
  have OV := hide (owns_below OW0.out hb)
  have DV := hide (DX0.out.to hb)
  clear hb OW0 DX0
  have hal := (Below.refl v1.heap.size v1).alloc (Nat.le_refl _) (.cells #[.int .i64 0, .int .i64 4, .int .u64 (IntKind.u64.wrap n), .string ⟨#[]⟩] 89)
  have HA := hide (owns_below OV.out hal)
  have DA := hide (DV.out.to hal)
  have hw5 : w.heap.size + 1 ≤ (v1.alloc (.cells #[.int .i64 0, .int .i64 4, .int .u64 (IntKind.u64.wrap n), .string ⟨#[]⟩] 89)).heap.size := DA.out.size
  have HNEW := hide (heap_new v1 (.cells #[.int .i64 0, .int .i64 4, .int .u64 (IntKind.u64.wrap n), .string ⟨#[]⟩] 89))
  clear hal OV DV
  go_wp2_with (at_builtin; refine wpList_append_own2 _ rfl _ _ 91 rfl (w.heap.size + 1) 89 i0 (.agg #[.int .i64 0, .int .i64 0, .int .u64 0, .string ⟨#[]⟩]) 4 40 Try.underlying91 HI.out HZ0.out HZ1.out HZ2.out rfl (by decide) (.slice (some ⟨q0, 0, none⟩) 1 1) 1 (List.flatMap fc [⟨0, 1, 12, ⟨#[]⟩⟩]) rfl HA.out ⟨v1.heap.size, 0, none⟩ 1 1 (by decide) (fc ⟨0, 4, (IntKind.u64.wrap n), ⟨#[]⟩⟩) rfl rfl (cells_new HNEW.out) (fc_one _) (by unfold maxLen; omega) (by omega) hw5 ?_; intro g0 c0 W1 ho hgr hnil; have OW1 := hide (show W1.ownsRow (w.heap.size + 1) 89 4 (.slice (some ⟨g0, 0, none⟩) 2 c0) 2 (List.flatMap fc [⟨0, 1, 12, ⟨#[]⟩⟩, ⟨0, 4, (IntKind.u64.wrap n), ⟨#[]⟩⟩]) from by rw [show (List.flatMap fc [⟨0, 1, 12, ⟨#[]⟩⟩, ⟨0, 4, (IntKind.u64.wrap n), ⟨#[]⟩⟩]) = List.flatMap fc [⟨0, 1, 12, ⟨#[]⟩⟩] ++ fc ⟨0, 4, (IntKind.u64.wrap n), ⟨#[]⟩⟩ from by simp [List.flatMap_cons, List.append_assoc]]; exact ho); have DX1 := hide (DQ.of (DA.out.low.grown hgr DA.out.size (fun jj h => (HA.out.lt jj h).1))); clear ho hgr hnil; have e0 := cell_of_block DX1.out.box 0)
  clear HA DA HNEW hw5
  have HF := hide (flds_at (m := [⟨0, 1, 12, ⟨#[]⟩⟩, ⟨0, 4, (IntKind.u64.wrap n), ⟨#[]⟩⟩]) rfl OW1.out)
  have HRF := hide (refWrite_any [⟨0, 1, 12, ⟨#[]⟩⟩, ⟨0, 4, (IntKind.u64.wrap n), ⟨#[]⟩⟩] (by show 2 ≤ 1000; omega) HFQ.out.good (some ⟨g0, 0, none⟩) c0 W1 HF.out)
  rw [HFQ.out.ref.1, HFQ.out.ref.2] at HRF
  refine HRF.out.mono ?_
  rintro e w9 ⟨rfl, hb⟩
  have D9 := hide (DX1.out.to hb)
  have e0 := cell_of_block D9.out.box 0
  clear hb HRF HF OW1 DX1
  have HEN := hide (renc_end (w := w) (W := w9) HEO.out HEB.out D9.out.below)
  generalize outS ok T = S1 at *
  go_wp2_with fail
  go_ret2
  exact HEN.out
set_option maxRecDepth 100000 in
set_option maxHeartbeats 1000000 in
theorem renc_13 (key ref amt code ak : Int) (name : ByteArray) (L : List LnM) (n : Int) (hr : RqOk ⟨13, ek0, key, ref, amt, code, ak, name, L, n⟩) (hn : name.size ≤ 300) (a : Option Addr) (cap : Nat) (w : World) (hin : LnIn w a L) :
    Calls Try.prog 9 #[.agg #[.int .u8 13, .int .i64 code, .int .u8 ak, .string name, .int .u64 key, .int .i64 ref, .int .i64 amt, .int .i64 n, .slice a L.length cap]] w (RqEIs ⟨13, ek0, key, ref, amt, code, ak, name, L, n⟩ w) := by
  obtain ⟨i0, hi, hz0, hz1, hz2⟩ := info_parts (show (Try.prog.info? 89).map (fun i => (i.zero, i.size, i.bytes)) = some (some (.agg #[.int .i64 0, .int .i64 0, .int .u64 0, .string ⟨#[]⟩]), 4, 40) by kernel_rfl)
  have HI := hide hi
  have HZ0 := hide hz0
  have HZ1 := hide hz1
  have HZ2 := hide hz2
  have HR := hide hr
  have HIN := hide hin
  have H0 := fq_kind 13 (by decide)
  obtain ⟨ok, hok⟩ : ∃ ok, encOk ⟨13, ek0, key, ref, amt, code, ak, name, L, n⟩ = ok := ⟨_, rfl⟩
  obtain ⟨T, hT⟩ : ∃ T, encT ⟨13, ek0, key, ref, amt, code, ak, name, L, n⟩ = T := ⟨_, rfl⟩
  have HEO := hide hok
  have HEB := hide hT
  have HFQ := hide (show FQ [⟨0, 1, 13, ⟨#[]⟩⟩] ok T from FQ.cast (H0) (show _ = ok from by rw [← hok, encOk_0 (Or.inr (Or.inr (Or.inl rfl)))]; (try simp only [Bool.true_and])) (show _ = T from by rw [← hT, head_t (r := ⟨13, ek0, key, ref, amt, code, ak, name, L, n⟩) 13 _ (encB_0 (Or.inr (Or.inr (Or.inl rfl)))) rfl]; (try simp only [List.append_assoc, List.append_nil]); (try rfl)))
  clear hi hz0 hz1 hz2 H0 hr hin hn hT hok
  have D0 := hide (DQ.new w #[.int .u8 13, .int .i64 code, .int .u8 ak, .string name, .int .u64 key, .int .i64 ref, .int .i64 amt, .int .i64 n, .slice a L.length cap])
  have e0 := cell_of_block D0.out.box 0
  go_enter Try.func9, Try.ntmps9
  go_wp2_with fail
  refine (rnum_any 13 1 _).mono ?_
  rintro e v0 ⟨rfl, hb⟩
  have DN := hide (D0.out.to hb)
  have hal := (Below.refl v0.heap.size v0).alloc (Nat.le_refl _) (.cells (fc ⟨0, 1, 13, ⟨#[]⟩⟩).toArray 89)
  have OW0 := hide (row_new v0 (w.heap.size + 1) DN.out.size ⟨0, 1, 13, ⟨#[]⟩⟩)
  have DX0 := hide (DN.out.to hal)
  clear D0 DN hb hal e0
  go_upto_region 4 with (fail)
  dsimp only [fc] at OW0 DX0
  generalize v0.alloc (.cells #[.int .i64 0, .int .i64 1, .int .u64 13, .string ⟨#[]⟩] 89) = W0 at *
  generalize v0.heap.size = q0 at *
  have e0 := cell_of_block DX0.out.box 0
  go_wp2_with fail
  have HF := hide (flds_at (m := [⟨0, 1, 13, ⟨#[]⟩⟩]) rfl OW0.out)
  have HRF := hide (refWrite_any [⟨0, 1, 13, ⟨#[]⟩⟩] (by show 1 ≤ 1000; omega) HFQ.out.good (some ⟨q0, 0, none⟩) 1 W0 HF.out)
  rw [HFQ.out.ref.1, HFQ.out.ref.2] at HRF
  refine HRF.out.mono ?_
  rintro e w9 ⟨rfl, hb⟩
  have D9 := hide (DX0.out.to hb)
  have e0 := cell_of_block D9.out.box 0
  clear hb HRF HF OW0 DX0
  have HEN := hide (renc_end (w := w) (W := w9) HEO.out HEB.out D9.out.below)
  generalize outS ok T = S1 at *
  go_wp2_with fail
  go_ret2
  exact HEN.out
set_option maxRecDepth 100000 in
set_option maxHeartbeats 1000000 in
theorem renc_14 (key ref amt code ak : Int) (name : ByteArray) (L : List LnM) (n : Int) (hr : RqOk ⟨14, ek0, key, ref, amt, code, ak, name, L, n⟩) (hn : name.size ≤ 300) (a : Option Addr) (cap : Nat) (w : World) (hin : LnIn w a L) :
    Calls Try.prog 9 #[.agg #[.int .u8 14, .int .i64 code, .int .u8 ak, .string name, .int .u64 key, .int .i64 ref, .int .i64 amt, .int .i64 n, .slice a L.length cap]] w (RqEIs ⟨14, ek0, key, ref, amt, code, ak, name, L, n⟩ w) := by
  obtain ⟨i0, hi, hz0, hz1, hz2⟩ := info_parts (show (Try.prog.info? 89).map (fun i => (i.zero, i.size, i.bytes)) = some (some (.agg #[.int .i64 0, .int .i64 0, .int .u64 0, .string ⟨#[]⟩]), 4, 40) by kernel_rfl)
  have HI := hide hi
  have HZ0 := hide hz0
  have HZ1 := hide hz1
  have HZ2 := hide hz2
  have HR := hide hr
  have HIN := hide hin
  have H0 := fq_kind 14 (by decide)
  obtain ⟨ok, hok⟩ : ∃ ok, encOk ⟨14, ek0, key, ref, amt, code, ak, name, L, n⟩ = ok := ⟨_, rfl⟩
  obtain ⟨T, hT⟩ : ∃ T, encT ⟨14, ek0, key, ref, amt, code, ak, name, L, n⟩ = T := ⟨_, rfl⟩
  have HEO := hide hok
  have HEB := hide hT
  have HFQ := hide (show FQ [⟨0, 1, 14, ⟨#[]⟩⟩] ok T from FQ.cast (H0) (show _ = ok from by rw [← hok, encOk_0 (Or.inr (Or.inr (Or.inr rfl)))]; (try simp only [Bool.true_and])) (show _ = T from by rw [← hT, head_t (r := ⟨14, ek0, key, ref, amt, code, ak, name, L, n⟩) 14 _ (encB_0 (Or.inr (Or.inr (Or.inr rfl)))) rfl]; (try simp only [List.append_assoc, List.append_nil]); (try rfl)))
  clear hi hz0 hz1 hz2 H0 hr hin hn hT hok
  have D0 := hide (DQ.new w #[.int .u8 14, .int .i64 code, .int .u8 ak, .string name, .int .u64 key, .int .i64 ref, .int .i64 amt, .int .i64 n, .slice a L.length cap])
  have e0 := cell_of_block D0.out.box 0
  go_enter Try.func9, Try.ntmps9
  go_wp2_with fail
  refine (rnum_any 14 1 _).mono ?_
  rintro e v0 ⟨rfl, hb⟩
  have DN := hide (D0.out.to hb)
  have hal := (Below.refl v0.heap.size v0).alloc (Nat.le_refl _) (.cells (fc ⟨0, 1, 14, ⟨#[]⟩⟩).toArray 89)
  have OW0 := hide (row_new v0 (w.heap.size + 1) DN.out.size ⟨0, 1, 14, ⟨#[]⟩⟩)
  have DX0 := hide (DN.out.to hal)
  clear D0 DN hb hal e0
  go_upto_region 4 with (fail)
  dsimp only [fc] at OW0 DX0
  generalize v0.alloc (.cells #[.int .i64 0, .int .i64 1, .int .u64 14, .string ⟨#[]⟩] 89) = W0 at *
  generalize v0.heap.size = q0 at *
  have e0 := cell_of_block DX0.out.box 0
  go_wp2_with fail
  have HF := hide (flds_at (m := [⟨0, 1, 14, ⟨#[]⟩⟩]) rfl OW0.out)
  have HRF := hide (refWrite_any [⟨0, 1, 14, ⟨#[]⟩⟩] (by show 1 ≤ 1000; omega) HFQ.out.good (some ⟨q0, 0, none⟩) 1 W0 HF.out)
  rw [HFQ.out.ref.1, HFQ.out.ref.2] at HRF
  refine HRF.out.mono ?_
  rintro e w9 ⟨rfl, hb⟩
  have D9 := hide (DX0.out.to hb)
  have e0 := cell_of_block D9.out.box 0
  clear hb HRF HF OW0 DX0
  have HEN := hide (renc_end (w := w) (W := w9) HEO.out HEB.out D9.out.below)
  generalize outS ok T = S1 at *
  go_wp2_with fail
  go_ret2
  exact HEN.out
theorem renc_no_kind (k key ref amt code ak : Int) (name : ByteArray) (L : List LnM) (n : Int) (hk : k < 1 ∨ 14 < k) (a : Option Addr) (cap : Nat) (w : World) :
    Calls Try.prog 9 #[.agg #[.int .u8 k, .int .i64 code, .int .u8 ak, .string name, .int .u64 key, .int .i64 ref, .int .i64 amt, .int .i64 n, .slice a L.length cap]] w (RqEIs ⟨k, ek0, key, ref, amt, code, ak, name, L, n⟩ w) := by
  have HEO := hide (encOk_no (r := ⟨k, ek0, key, ref, amt, code, ak, name, L, n⟩) hk)
  have D0 := hide (DQ.new w #[.int .u8 k, .int .i64 code, .int .u8 ak, .string name, .int .u64 key, .int .i64 ref, .int .i64 amt, .int .i64 n, .slice a L.length cap])
  have e0 := cell_of_block D0.out.box 0
  go_enter Try.func9, Try.ntmps9
  by_cases h1 : k < 1
  · go_wp2_with fail
    go_ret2
    exact renc_no HEO.out D0.out.below
  · have h14 : 14 < k := by omega
    go_wp2_with fail
    go_ret2
    exact renc_no HEO.out D0.out.below
theorem kinds14 {k : Int} (h1 : 1 ≤ k) (h2 : k ≤ 14) : k = 1 ∨ k = 2 ∨ k = 3 ∨ k = 4 ∨ k = 5 ∨ k = 6 ∨ k = 7 ∨ k = 8 ∨ k = 9 ∨ k = 10 ∨ k = 11 ∨ k = 12 ∨ k = 13 ∨ k = 14 := by omega
theorem rq_enc (r : RqM) (hr : RqOk r) (hn : r.name.size ≤ 300) (a : Option Addr) (cap : Nat) (w : World) (hin : LnIn w a r.L) :
    Calls Try.prog 9 #[.agg #[.int .u8 r.k, .int .i64 r.code, .int .u8 r.ak, .string r.name, .int .u64 r.key, .int .i64 r.ref, .int .i64 r.amt, .int .i64 r.n, .slice a r.L.length cap]] w (RqEIs r w) := by
  obtain ⟨k, ek, key, ref, amt, code, ak, name, L, n⟩ := r
  dsimp only at *
  by_cases hk : k < 1 ∨ 14 < k
  · exact renc_no_kind k key ref amt code ak name L n hk a cap w
  · rcases kinds14 (k := k) (by omega) (by omega) with rfl | rfl | rfl | rfl | rfl | rfl | rfl | rfl | rfl | rfl | rfl | rfl | rfl | rfl
    · exact renc_1 key ref amt code ak name L n hr hn a cap w hin
    · exact renc_2 key ref amt code ak name L n hr hn a cap w hin
    · exact renc_3 key ref amt code ak name L n hr hn a cap w hin
    · exact renc_4 key ref amt code ak name L n hr hn a cap w hin
    · exact renc_5 key ref amt code ak name L n hr hn a cap w hin
    · exact renc_6 key ref amt code ak name L n hr hn a cap w hin
    · exact renc_7 key ref amt code ak name L n hr hn a cap w hin
    · exact renc_8 key ref amt code ak name L n hr hn a cap w hin
    · exact renc_9 key ref amt code ak name L n hr hn a cap w hin
    · exact renc_10 key ref amt code ak name L n hr hn a cap w hin
    · exact renc_11 key ref amt code ak name L n hr hn a cap w hin
    · exact renc_12 key ref amt code ak name L n hr hn a cap w hin
    · exact renc_13 key ref amt code ak name L n hr hn a cap w hin
    · exact renc_14 key ref amt code ak name L n hr hn a cap w hin
end Go.Proofs.Ytkbikflincjhhaa
