/-
  Layer 2: the statements.
-/
import Derived.Test.YtmhppjgclaahnaaRef2
import Derived.Test.YtmhppjgclaahnaaBe
namespace Go.Proofs.Ytmhppjgclaahnaa
set_option linter.unusedSimpArgs false
set_option linter.unusedVariables false
open Go.RowKit Go.WideShapes Go.ChangeShapes Go.ChangeAt

theorem tabAt_of_block {w : World} {b : Nat} {t : TypeId} {fr : Nat × Nat} (h : w.heap[b]? = some (.cells (tabC 256) t fr)) : TabAt w b 0 := by
  intro k hk
  rw [cell_of_block h, Nat.zero_add, tabC_at _ _ hk, if_pos hk]
theorem tabAt_below {B : Nat} {w w' : World} {b o : Nat} (h : TabAt w b o) (hb : Below B w w') (hlt : b < B) : TabAt w' b o := fun k hk => by
  rw [hb.cell (p := ⟨b, o + k, none⟩) hlt]; exact h k hk
theorem tabAt_drewN {w : World} {b o : Nat} (h : TabAt w b o) (n : Nat) : TabAt (w.drewN n) b o := fun k hk => h k hk
theorem tabAt_alloc {w : World} {b o : Nat} (h : TabAt w b o) (ob : Obj) (hb : b < w.heap.size) : TabAt (w.alloc ob) b o := fun k hk => by
  rw [World.cell?_alloc_past _ _ _ hb]; exact h k hk
theorem tabAt_drew {w : World} {b o : Nat} (h : TabAt w b o) : TabAt w.drew b o := fun k hk => h k hk
theorem below_drewN' {B : Nat} {a w : World} (h : Below B a w) (n : Nat) : Below B a (w.drewN n) := ⟨h.os, h.tape, h.output, h.size, h.block⟩

theorem more_int (b o : Nat) (t : Int) (t0 : 0 ≤ t) (t1 : t < 4294967296) (l : ByteArray) (hl : l.size ≤ 9223372036854775807) (w : World) (ht : TabAt w b o) :
    Calls Try.prog 16 #[.pointer (some ⟨b, o, none⟩), .int .u32 t, .string l] w fun e w' => e = .returned (.int .u32 (mN (BitVec.ofNat 32 t.toNat) l.data.toList : Int)) ∧ ∃ n, w' = w.drewN n := by
  have h := more_any b o (BitVec.ofNat 32 t.toNat) l hl w ht
  rwa [show (((BitVec.ofNat 32 t.toNat).toNat : Nat) : Int) = t by rw [BitVec.toNat_ofNat]; omega] at h
theorem cN_wrap (l : List UInt8) : IntKind.u64.wrap (cN l : Int) = (cN l : Int) := by
  have : cN l ≤ 4294967295 := Nat.sub_le _ _
  exact wraps_u64 _ (by omega) (by omega)
theorem mN_wrap (t : St) (l : List UInt8) : IntKind.u64.wrap (mN t l : Int) = (mN t l : Int) := by
  have := mN_lt t l
  exact wraps_u64 _ (by omega) (by omega)
theorem tab_store (W : World) : (storeCells ⟨W.heap.size, 0, none⟩ (tabC 256).toList).run Try.prog (W.alloc (.cells (tabC 0) 24)) = .ok () (W.alloc (.cells (tabC 256) 24)) :=
  run_storeCells_new W _ _ _ (tab_size' 256) (tabC_sizes 0 256) (tabC_one 256)
theorem tabAt_new (W : World) : TabAt (W.alloc (.cells (tabC 256) 24)) W.heap.size 0 := tabAt_of_block (heap_alloc_last W _)
theorem nine : cN (⟨#[49, 50, 51, 52, 53, 54, 55, 56, 57]⟩ : ByteArray).data.toList = 4236843288 := by decide +kernel
theorem tab_one : tabN 1 = 79764919 := by decide +kernel

set_option maxRecDepth 20000 in
set_option maxHeartbeats 1000000 in
theorem wakes2 (w : World) : Calls Try.prog 13 #[] w fun e w' => e = .returned (.bool true) ∧ Below w.heap.size w w' := by
  have z := (zero_of_info tab_zero).1
  have hsz := tabC_size 256
  have hst := tab_store
  have hS := hide (fun W : World => sum_any W.heap.size 0 ⟨#[49, 50, 51, 52, 53, 54, 55, 56, 57]⟩ (by decide) _ (tabAt_new W))
  rw [nine] at hS
  have hc := fun W : World => tabAt_new W 1 (by omega)
  rw [tab_one] at hc
  go_enter Try.func13, Try.ntmps13
  go_wp2_with (first | (go_at_call 12; ((with_reducible refine (make_any _).mono ?_); rintro e w1 ⟨rfl, hb1⟩)) | (go_at_call 14; ((with_reducible refine (hS.out _).mono ?_); rintro e w2 ⟨rfl, n, rfl⟩)) | (go_at_call 20; ((with_reducible refine (first_any _).mono ?_); rintro e w' ⟨rfl, rfl⟩)))
  go_ret
  exact ⟨rfl, below_drewN' (hb1.alloc hb1.size _) _⟩

set_option maxRecDepth 20000 in
set_option maxHeartbeats 1000000 in
theorem polySums_walk (t : Int) (t0 : 0 ≤ t) (t1 : t ≤ 4294967295) (s : ByteArray) (hs : s.size ≤ 9223372036854775807) (w : World) :
    Calls Try.prog 3 #[.int .u32 t, .string s] w fun e w' => e = .returned (.bool true) ∧ Below w.heap.size w w' := by
  have z := (zero_of_info tab_zero).1
  have hsz := tabC_size 256
  have hst := tab_store
  have hw1 := cN_wrap
  have hw2 := mN_wrap
  by_cases hbig : 300 < s.size
  all_goals
    go_enter Try.func3, Try.ntmps3
    go_wp2_with (first | (go_at_call 12; ((with_reducible refine (make_any _).mono ?_); rintro e w1 ⟨rfl, hb1⟩)) | (go_at_call 13; ((with_reducible refine (wakes2 _).mono ?_); rintro e w0 ⟨rfl, hb0⟩; have hT0 := tabAt_below (tabAt_new _) hb0 (by simp))) | (go_at_call 14; ((with_reducible refine (sum_any _ _ _ (by first | omega | (simp; omega)) _ (tabAt_drewN hT0 _)).mono ?_); rintro e w2 ⟨rfl, n, rfl⟩)) | (go_at_call 14; ((with_reducible refine (sum_any _ _ _ (by first | omega | (simp; omega)) _ hT0).mono ?_); rintro e w2 ⟨rfl, n, rfl⟩)) | (go_at_call 14; ((with_reducible refine (sum_nil _ _).mono ?_); rintro e w2 ⟨rfl, rfl⟩)) | (go_at_call 16; ((with_reducible refine (more_nil _ _ _).mono ?_); rintro e w2 ⟨rfl, rfl⟩)) | (go_at_call 16; ((with_reducible refine (more_int _ _ _ t0 (by omega) _ (by first | omega | (simp; omega)) _ (tabAt_drewN hT0 _)).mono ?_); rintro e w2 ⟨rfl, n2, rfl⟩)) | (go_at_call 17; ((with_reducible refine (rmore_int _ t0 (by omega) _ (by first | omega | (simp; omega)) _).mono ?_); rintro e w2 ⟨rfl, rfl⟩)) | (go_at_call 15; ((with_reducible refine (rsum_any _ (by first | omega | (simp; omega)) _).mono ?_); rintro e w2 ⟨rfl, rfl⟩)) | (go_at_call 18; ((with_reducible refine (last_any _ t0 t1 _).mono ?_); rintro e w2 ⟨rfl, rfl⟩)) | (go_at_call 19; ((with_reducible refine (rlast_any _ t0 t1 _).mono ?_); rintro e w2 ⟨rfl, rfl⟩)))
    go_ret
    exact ⟨rfl, below_drewN' ((hb1.alloc hb1.size _).trans (hb0.mono (by have := hb1.size; simp; omega))) _⟩

set_option maxRecDepth 100000 in
theorem polySums_lifted (os : Os) (started : os.Started) (H : Type) (enc : TypeId × Value → H) :
    ReturnsInHanded {} Try.checked os 3 .any (Rows.polySumsSpec.pre6 enc Try.prog Try.f3 Rows.polySumsRow.domain false) (Rows.polySumsSpec.post enc Try.prog Try.f3 false true false false) := by
  refine returnsInHanded_of_change (C := Try.checked) own started (by kernel_rfl) Try.func3
    (ChangeSpec.witness6 (enc := enc) (C := Try.checked) false ⟨#[], #[.int .u32 0, .string ⟨#[]⟩], []⟩ 8 (by kernel_rfl) (by kernel_rfl) (by kernel_rfl) (by kernel_rfl)) ?_
  intro W base args ds gs before hval0 hW _ _
  have hval : ∀ (j : Nat) t v, Try.f3.params[j]? = some t → args[j]? = some v → Value.okWide Try.prog W .any base t v := hval0
  have hW' := hW
  obtain ⟨p, q, hA0, hV, rfl, hfz, hnd⟩ := hW
  have hA : DataW.TrodAll enc Try.prog W 0 (fun _ => true) true Try.f3.params.toList args.toList ds p := hA0
  rw [Try.params3] at hA hval
  obtain ⟨v0, vs0, d0, ds0, p0, q0, hargs, rfl, rfl, h0, r0⟩ := trodAll_cons hA
  obtain ⟨v1, vs1, d1, ds1, p1, q1, rfl, rfl, rfl, h1, r1⟩ := trodAll_cons r0
  obtain ⟨rfl, rfl, rfl⟩ := trodAll_nil r1
  obtain rfl : args = #[v0, v1] := by cases args; simp_all
  obtain ⟨rfl, rfl⟩ := trodVars_none hV
  obtain ⟨t, rfl, rfl, rfl, w0⟩ := open_int Try.underlying22 (hval 0 22 v0 rfl rfl) h0
  have z0 := wf_u32 w0
  obtain ⟨s, rfl, rfl, rfl, w1⟩ := ChangeMaps.open_string Try.underlying9 (hval 1 9 v1 rfl rfl) h1
  have z1 : s.size ≤ 9223372036854775807 := w1
  clear hA0 hval0
  refine (polySums_walk t z0.1 z0.2 s z1 W).mono fun e W' ⟨he, hb⟩ => ?_
  subst he
  exact ⟨_, rfl, post_law laidOut (of_decide_eq_true (by kernel_rfl)) rfl rfl Try.underlying4 hW' ⟨rfl, rfl, rfl⟩ hb⟩

/-- THE STATEMENT -/
theorem polySums_holds : Rows.PolySumsSaid :=
  OpenClaim.holds_of_wide 3 Try.f3 rfl rfl rfl rfl rfl rfl rfl ⟨rfl, rfl, rfl, rfl, rfl⟩ rfl rfl rfl rfl rfl (by kernel_rfl) Try.func3 (by kernel_rfl)
    (of_decide_eq_true (by kernel_rfl)) (by unfold Func.isWrapper; first | (rw [if_pos (by decide +kernel)]; kernel_rfl) | (rw [if_neg (by decide +kernel)]; exact ⟨rfl, rfl⟩))
    (fun os started H enc _ => polySums_lifted os started H enc)


end Go.Proofs.Ytmhppjgclaahnaa
