/-
  Layer 6, the statements' helpers: of, tame, wakes; Parse as a whole.
-/
import Derived.Test.YtoigejgpagoghaaTag4
namespace Go.Proofs.Ytoigejgpagoghaa
set_option linter.unusedSimpArgs false
set_option linter.unusedVariables false
open Go.RowKit Go.WideShapes Go.ChangeShapes Go.ChangeAt

theorem parse_any (b o : Nat) (d l : List UInt8) (hd : d.length ≤ 9223372036854775807) (hm : l.length ≤ 9223372036854775807) (w : World) (ht : TabAt w b o) :
    Calls Try.prog 14 #[.pointer (some ⟨b, o, none⟩), .string (bs d), .string (bs l)] w fun e w' => e = .returned (.tuple #[parseV d l, .int .i64 (parseE d l)]) ∧ Below w.heap.size w w' := by
  by_cases hl : l.length = 32
  · by_cases h1 : TagOk (fld (l.take 28) 1 1) (fld (l.take 28) 2 2) (fld (l.take 28) 12 1) (fld (l.take 28) 13 1)
    · by_cases h2 : headZ (fld (l.take 28) 1 1) (fld (l.take 28) 2 2) (fld (l.take 28) 4 8) (fld (l.take 28) 12 1) (fld (l.take 28) 13 1) = l.take 28
      · by_cases h3 : sumL d (l.take 28) = l.drop 28
        · have hz := parseE_ok d l hl ⟨h1, h2⟩ h3
          rw [parseV_ok d l hz, hz, ← fld_take l 1 1 (by omega), ← fld_take l 2 2 (by omega), ← fld_take l 4 8 (by omega), ← fld_take l 12 1 (by omega), ← fld_take l 13 1 (by omega)]
          exact parse_good b o d l hl h1 h2 hd h3 w ht
        · have hz := parseE_sum d l hl ⟨h1, h2⟩ h3
          rw [parseV_no d l (by omega), hz]
          exact parse_sum b o d l hl h1 h2 hd h3 w ht
      · have hz := parseE_form d l (fun h => h2 h.2)
        rw [parseV_no d l (by omega), hz]
        exact parse_head b o d l hl h1 h2 w
    · have hz := parseE_form d l (fun h => h1 h.1)
      rw [parseV_no d l (by omega), hz]
      exact parse_right b o d l hl h1 w
  · have hz := parseE_len d l hl
    rw [parseV_no d l (by omega), hz]
    exact parse_len b o (bs d) l hl hm w
theorem res_ltag {fn : Func} {p : Tmp} (h : fn.results = #[.cell p 24]) (tmps : Array Value) (w : World) (A : Nat) (a b c d e : Int)
    (hp : tmps.getD p undef = .pointer (some ⟨A, 0, none⟩)) (hg : w.heap[A]? = some (.cells (tagC a b c d e) 24 (0, 0))) : (results fn tmps).run Try.prog w = .ok (.agg (tagC a b c d e)) w :=
  results_cell_row h tmps w A _ _ _ _ hp hg Try.underlying24 rfl (by show _ = some 5; kernel_rfl)
theorem new2 (w : World) (o o2 : Obj) : ((w.alloc o).alloc o2).heap[w.heap.size + 1]? = some o2 := by
  have := heap_new (w.alloc o) o2
  rwa [heap_alloc_sz] at this
theorem below2 (w : World) (o o2 : Obj) : Below w.heap.size w ((w.alloc o).alloc o2) := ((Below.refl _ _).alloc (Nat.le_refl _) _).alloc (by rw [heap_alloc_sz]; omega) _
theorem below5 {w W : World} {B : Nat} (h : Below B w W) (A : Nat) (hA : B ≤ A) (x0 x1 x2 x3 x4 : Value) : Below B w (((((W.setCell ⟨A, 0, none⟩ x0).setCell ⟨A, 1, none⟩ x1).setCell ⟨A, 2, none⟩ x2).setCell ⟨A, 3, none⟩ x3).setCell ⟨A, 4, none⟩ x4) :=
  ((((h.setCell hA _).setCell hA _).setCell hA _).setCell hA _).setCell hA _
theorem of_tag (k l s p n : Int) (w : World) :
    Calls Try.prog 10 #[.agg #[.int .u8 k, .int .i64 l, .int .u64 s, .int .i64 p, .int .i64 n]] w fun e w' => e = .returned (.agg #[.int .u8 k, .int .i64 l, .int .u64 s, .int .i64 p, .int .i64 n]) ∧ Below w.heap.size w w' := by
  go_enter Try.func10, Try.ntmps10
  go_wp2_with fail
  exact bodyPost_ret (res_tag Try.results10 _ _ (w.heap.size + 1) k l s p n rfl (new2 _ _ _)) rfl ⟨rfl, below2 _ _ _⟩
/-- a tag that may be, made of any one -/
def mxZ (x : Int) : Int := max 0 x
def tkZ (k : Int) : Int := 1 + k % 3
def tnZ (n : Int) : Int := 1 + mxZ n % 255
def tlZ (l : Int) : Int := mxZ l % 65536
def tpZ (p n : Int) : Int := mxZ p % tnZ n
theorem mxZ_nn (x : Int) : 0 ≤ mxZ x := by unfold mxZ; omega
theorem tame_ok (k l p n : Int) (k0 : 0 ≤ k) : TagOk (tkZ k) (tlZ l) (tpZ p n) (tnZ n) := by
  have h1 := mxZ_nn n
  have h2 := mxZ_nn l
  have h3 := mxZ_nn p
  have h4 : 1 ≤ tnZ n ∧ tnZ n ≤ 255 := by unfold tnZ; omega
  have h5 := Int.emod_nonneg (mxZ p) (show tnZ n ≠ 0 by omega)
  have h6 := Int.emod_lt_of_pos (mxZ p) (show 0 < tnZ n by omega)
  unfold TagOk tkZ tlZ tpZ
  omega
set_option maxRecDepth 100000 in
theorem tame_any (k l s p n : Int) (k0 : 0 ≤ k) (k1 : k ≤ 255) (w : World) :
    Calls Try.prog 8 #[.agg #[.int .u8 k, .int .i64 l, .int .u64 s, .int .i64 p, .int .i64 n]] w fun e w' => e = .returned (.agg #[.int .u8 (tkZ k), .int .i64 (tlZ l), .int .u64 s, .int .i64 (tpZ p n), .int .i64 (tnZ n)]) ∧ Below w.heap.size w w' := by
  go_enter Try.func8, Try.ntmps8
  go_wp2_with fail
  go_region
  go_wp2_with fail
  exact bodyPost_ret (res_ltag Try.results8 _ _ (w.heap.size + 1) (tkZ k) (tlZ l) s (tpZ p n) (tnZ n) rfl (new2 _ _ _)) rfl ⟨rfl, (below2 _ _ _).drew⟩
theorem parseV_frame (k l s p n : Int) (h : TagOk k l p n) (s0 : 0 ≤ s) (s1 : s ≤ 18446744073709551615) (b o : Nat) (d : List UInt8) (hd : d.length ≤ 9223372036854775807) (w : World) (ht : TabAt w b o) :
    Calls Try.prog 14 #[.pointer (some ⟨b, o, none⟩), .string (bs d), .string (bs (frameL k l s p n d))] w fun e w' => e = .returned (.tuple #[.agg #[.int .u8 k, .int .i64 l, .int .u64 s, .int .i64 p, .int .i64 n], .int .i64 0]) ∧ Below w.heap.size w w' := by
  have h1 := parse_any b o d (frameL k l s p n d) hd (by rw [frameL_length]; omega) w ht
  obtain ⟨h2, h3⟩ := parse_frame k l s p n h s0 s1 d
  rw [h2, h3] at h1
  exact h1
theorem frame14 (d : List UInt8) : (frameL 2 0 5 0 1 d).take 14 = [255, 2, 0, 0, 0, 0, 0, 0, 0, 0, 0, 5, 0, 1] := by
  unfold frameL
  rw [List.take_append_of_le_length (by rw [headZ_length]; omega)]
  decide +kernel
set_option maxRecDepth 100000 in
set_option maxHeartbeats 400000 in
theorem wakes6 (w : World) : Calls Try.prog 16 #[] w fun e w' => e = .returned (.bool true) ∧ Below w.heap.size w w' := by
  have z := (zero_of_info tab_zero).1
  have hsz := tabC_size 256
  have hst := tab_store
  have hlen : (bs (frameL 2 0 5 0 1 [100, 97, 116, 97])).size = 32 := frameL_length ..
  have hcut : (bs (frameL 2 0 5 0 1 [100, 97, 116, 97])).extract 0 14 = ByteArray.mk #[255, 2, 0, 0, 0, 0, 0, 0, 0, 0, 0, 5, 0, 1] := by rw [bs_to, frame14]; rfl
  have HF := hide (fun b W h => frame_ok b 0 2 0 5 0 1 (by unfold TagOk; omega) (by omega) (by omega) [100, 97, 116, 97] (by decide) W h)
  have HP := hide (fun b W h => parseV_frame 2 0 5 0 1 (by unfold TagOk; omega) (by omega) (by omega) b 0 [100, 97, 116, 97] (by decide) W h)
  generalize frameL 2 0 5 0 1 [100, 97, 116, 97] = fr at *
  go_enter Try.func16, Try.ntmps16
  go_wp2_with fail
  refine (make_any _).mono ?_
  rintro e w1 ⟨rfl, hb⟩
  have HT := hide (tabAt_new w1)
  have HB := hide (hb.alloc hb.size (.cells (tabC 256) 27))
  clear hb
  go_wp2_with fail
  refine (HF.out _ _ HT.out).mono ?_
  rintro e w2 ⟨rfl, hb⟩
  have HT2 := hide (tabAt_kept HT.out hb)
  have HB2 := hide (below_trans HB.out hb)
  clear hb HT HB HF
  generalize w1.heap.size = b at *
  go_wp2_with fail
  refine (HP.out _ _ HT2.out).mono ?_
  rintro e w3 ⟨rfl, hb⟩
  have HB3 := hide (below_trans HB2.out hb)
  clear hb HT2 HB2 HP
  go_wp2_with fail
  go_ret
  exact ⟨rfl, HB3.out.alloc HB3.out.size _⟩
end Go.Proofs.Ytoigejgpagoghaa
