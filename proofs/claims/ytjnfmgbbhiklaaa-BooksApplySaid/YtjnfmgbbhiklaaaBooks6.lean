/-
  Layer 23: Apply.
-/
import Derived.Test.YtjnfmgbbhiklaaaBooks5
namespace Go.Proofs.Ytjnfmgbbhiklaaa
set_option linter.unusedSimpArgs false
set_option linter.unusedVariables false
open Go.RowKit Go.WideShapes Go.ChangeShapes Go.ChangeAt Go.Deep
theorem appE_range {M L : List LnM} (k : Nat) (hk : k < L.length) (h : ¬ (0 ≤ (L.getD k ln0).c ∧ (L.getD k ln0).c ≤ 65535)) : appE M L = 3 := by
  unfold appE
  rw [if_pos]
  exact List.any_eq_true.2 ⟨_, ln_mem L k hk, by unfold accB; rw [decide_eq_false h]; rfl⟩
theorem appE_over {M L : List LnM} (h : ∀ x ∈ L, 0 ≤ x.c ∧ x.c ≤ 65535) {a : Int} (ha : hasB L a = true) (ho : ¬ inR (totB M L a)) : appE M L = 6 := by
  unfold appE
  rw [if_neg, if_pos]
  · unfold hasB at ha
    obtain ⟨x, hx, hxa⟩ := List.any_eq_true.1 ha
    refine List.any_eq_true.2 ⟨x, hx, ?_⟩
    have : x.c = a := of_decide_eq_true hxa
    rw [this]
    have h2 : ¬ fitB (totB M L a) = true := fun e => ho ((fitB_is _).1 e)
    simpa using h2
  · rw [Bool.not_eq_true, List.any_eq_false]
    exact fun x hx => by unfold accB; simpa using h x hx
theorem all_of {L : List LnM} (h : ∀ j, j < L.length → 0 ≤ (L.getD j ln0).c ∧ (L.getD j ln0).c ≤ 65535) : ∀ x ∈ L, 0 ≤ x.c ∧ x.c ≤ 65535 := fun x hx => by
  obtain ⟨i, hi, rfl⟩ := List.getElem_of_mem hx
  have := h i hi
  simpa [List.getD, hi] using this
theorem has_in {L : List LnM} {a : Int} (h : hasB L a = true) : ∃ x ∈ L, x.c = a := by
  unfold hasB at h
  obtain ⟨x, hx, hxa⟩ := List.any_eq_true.1 h
  exact ⟨x, hx, of_decide_eq_true hxa⟩
/-- the rows of the accounts that are still to come -/
def RowsL (W : World) (B : Nat) (L : List LnM) (f : Lit → Option Value) (left : Lit → Bool) : Prop := ∀ a, inR a → left (.int .i64 a) = true → hasB L a = true ∧ ∃ v, f (.int .i64 a) = some v ∧ W.ownsRow B 37 1 v (amts L a).length ((amts L a).map (Value.int .i64))
theorem RowsL.kept {W W' : World} {B : Nat} {L : List LnM} {f : Lit → Option Value} {left : Lit → Bool} (h : RowsL W B L f left) (hst : ∀ (m : Nat) (v : Value) (xs : List Value), W.ownsRow B 37 1 v m xs → W'.ownsRow B 37 1 v m xs) : RowsL W' B L f left := fun a ha hl => by
  obtain ⟨h1, v, h2, h3⟩ := h a ha hl
  exact ⟨h1, v, h2, hst _ _ _ h3⟩
/-- an account's row has grown: the others are as they were -/
theorem RowsL.next {W W' : World} {B : Nat} {L : List LnM} {f : Lit → Option Value} {left : Lit → Bool} (h : RowsL W B L f left) (hap : ∀ a b v u, inR a → inR b → a ≠ b → f (.int .i64 a) = some v → f (.int .i64 b) = some u → ApartV v u)
    {a : Int} (ha : inR a) {v : Value} (hv : f (.int .i64 a) = some v) (hg : W.grownBy W' v.ownBlock) : RowsL W' B L f (fun z => left z && !z.sameKey (.int .i64 a)) := fun b hb hl => by
  simp only [Bool.and_eq_true, Bool.not_eq_true'] at hl
  have hne : b ≠ a := fun e => by
    subst e
    rw [(same_int b b).2 rfl] at hl
    exact absurd hl.2 (by decide)
  obtain ⟨h1, u, h2, h3⟩ := h b hb hl.1
  exact ⟨h1, u, h2, owns_apart h3 (hap a b v u ha hb (fun e => hne e.symm) hv h2) hg⟩
/-- what the sums' map holds: the totals of the accounts that have been seen -/
def SumF (M L : List LnM) (left : Lit → Bool) (f : Lit → Option Value) : Prop := ∀ a, inR a → f (.int .i64 a) = if (hasB L a && !left (.int .i64 a)) = true then some (.int .i64 (totB M L a)) else none
def SeenIn (M L : List LnM) (left : Lit → Bool) : Prop := ∀ a, inR a → hasB L a = true → left (.int .i64 a) = false → inR (totB M L a)
theorem SumF.next {M L : List LnM} {left : Lit → Bool} {f : Lit → Option Value} (h : SumF M L left f) {a : Int} (ha : hasB L a = true) : SumF M L (fun z => left z && !z.sameKey (.int .i64 a)) (fun l => if l.sameKey (.int .i64 a) = true then some (.int .i64 (totB M L a)) else f l) := fun b hb => by
  show (if (Lit.int .i64 b).sameKey (.int .i64 a) = true then some (Value.int .i64 (totB M L a)) else f (.int .i64 b)) = if (hasB L b && !(left (.int .i64 b) && !(Lit.int .i64 b).sameKey (.int .i64 a))) = true then some (.int .i64 (totB M L b)) else none
  by_cases e : b = a
  · subst e
    rw [if_pos ((same_int b b).2 rfl), (same_int b b).2 rfl, ha]
    simp
  · have h1 : (Lit.int .i64 b).sameKey (.int .i64 a) = false := by
      cases hs : (Lit.int .i64 b).sameKey (.int .i64 a) with
      | false => rfl
      | true => exact absurd ((same_int b a).1 hs) e
    rw [if_neg (by rw [h1]; decide), h1, h b hb]
    simp
theorem SeenIn.next {M L : List LnM} {left : Lit → Bool} (h : SeenIn M L left) {a : Int} (ha : inR (totB M L a)) : SeenIn M L (fun z => left z && !z.sameKey (.int .i64 a)) := fun b hb hl h1 => by
  by_cases e : b = a
  · subst e; exact ha
  · refine h b hb hl ?_
    have h2 : (Lit.int .i64 b).sameKey (.int .i64 a) = false := by
      cases hs : (Lit.int .i64 b).sameKey (.int .i64 a) with
      | false => rfl
      | true => exact absurd ((same_int b a).1 hs) e
    have h3 : (left (.int .i64 b) && !(Lit.int .i64 b).sameKey (.int .i64 a)) = false := h1
    rw [h2] at h3
    simpa using h3
/-- what is set so far -/
def SetSo (M L : List LnM) (left : Lit → Bool) (O : List LnM) : Prop := ∃ A : List Int, O = setAll (totB M L) M A ∧ (∀ a ∈ A, inR a) ∧ ∀ a, inR a → (a ∈ A ↔ (hasB L a = true ∧ left (.int .i64 a) = false))
theorem SetSo.start {M L : List LnM} {left : Lit → Bool} (h : ∀ a, inR a → hasB L a = true → left (.int .i64 a) = true) : SetSo M L left M :=
  ⟨[], rfl, (fun a ha => by cases ha), fun a ha => ⟨(fun h => by cases h), (fun ⟨h1, h2⟩ => by rw [h a ha h1] at h2; cases h2)⟩⟩
theorem SetSo.next {M L O : List LnM} {left : Lit → Bool} (h : SetSo M L left O) {a : Int} (ha : inR a) (hb : hasB L a = true) : SetSo M L (fun z => left z && !z.sameKey (.int .i64 a)) (setB O a (totB M L a)) := by
  obtain ⟨A, rfl, hA0, hA⟩ := h
  refine ⟨A ++ [a], by unfold setAll; rw [List.foldl_append]; rfl, fun b hb2 => ?_, fun b hb2 => ?_⟩
  · rcases List.mem_append.1 hb2 with h1 | h1
    · exact hA0 b h1
    · rw [List.mem_singleton.1 h1]; exact ha
  show b ∈ A ++ [a] ↔ (hasB L b = true ∧ (left (.int .i64 b) && !(Lit.int .i64 b).sameKey (.int .i64 a)) = false)
  rw [List.mem_append, hA b hb2, List.mem_singleton]
  by_cases e : b = a
  · subst e
    rw [(same_int b b).2 rfl]
    simp [hb]
  · have h2 : (Lit.int .i64 b).sameKey (.int .i64 a) = false := by
      cases hs : (Lit.int .i64 b).sameKey (.int .i64 a) with
      | false => rfl
      | true => exact absurd ((same_int b a).1 hs) e
    rw [h2]
    simp [e]
theorem SetSo.done {M L O : List LnM} {left : Lit → Bool} (h : SetSo M L left O) (hr : RiseB M) (hz : NzB M) (hl : ∀ kl, left kl = false) (hin : ∀ x ∈ L, 0 ≤ x.c ∧ x.c ≤ 65535) (hs : ∀ x ∈ L, inR (totB M L x.c)) : appE M L = 0 ∧ O = nextB M L := by
  obtain ⟨A, rfl, hA0, hA⟩ := h
  have h0 : appE M L = 0 := appE_of (fun x hx => by unfold accB; exact decide_eq_true (hin x hx)) hs
  refine ⟨h0, ?_⟩
  unfold nextB
  rw [if_pos h0]
  refine setAll_same hr hz fun a => ?_
  rw [List.mem_map]
  constructor
  · intro h1
    have := (hA a (hA0 a h1)).1 h1
    exact has_in this.1
  · rintro ⟨x, hx, rfl⟩
    have h3 := hin x hx
    exact (hA x.c ⟨by omega, by omega⟩).2 ⟨by unfold hasB; exact List.any_eq_true.2 ⟨x, hx, by simp⟩, hl _⟩
def ApplyIs (N p bm : Nat) (M L : List LnM) (w : World) (e : Ending) (w' : World) : Prop := e = .returned (.int .i64 (appE M L)) ∧ BooksIs (N + L.length) w' p bm (nextB M L) ∧ Only bm w w'
set_option maxRecDepth 100000 in
set_option maxHeartbeats 1000000 in
theorem bkapply_any (N : Nat) (hN : N ≤ 100000) (p bm : Nat) (M L : List LnM) (hL : L.length ≤ 100) (hok : ∀ x ∈ L, LnOk x) (a : Option Addr) (cap : Nat) (w : World) (hin : LnIn w a L) (h : BooksIs N w p bm M) :
    Calls Try.prog 10 #[.pointer (some ⟨p, 0, none⟩), .slice a L.length cap] w (ApplyIs N p bm M L w) := by
  obtain ⟨i0, hi, hz0, hz1, hz2⟩ := info_parts (show (Try.prog.info? 37).map (fun i => (i.zero, i.size, i.bytes)) = some (some (.int .i64 0), 1, 8) by kernel_rfl)
  have HI := hide hi
  have HZ0 := hide hz0
  have HZ1 := hide hz1
  have HZ2 := hide hz2
  have HIL := hide hin
  have HOK := hide hok
  have HBK := hide h
  have hmm := @run_makeMap Try.prog
  clear hi hz0 hz1 hz2 hin hok h
  go_enter Try.func10, Try.ntmps10
  go_wp2_with fail
  have AM0 := hide (AmAt.made w w.heap.size)
  have B0 := hide ((Below.refl w.heap.size w).alloc (Nat.le_refl _) (.map #[] 0))
  obtain ⟨am, ham⟩ : ∃ am, am = w.heap.size := ⟨_, rfl⟩
  have HAM := hide (show w.heap.size ≤ am by omega)
  rw [show AmAt (w.alloc (.map #[] 0)) w.heap.size w.heap.size [] = AmAt (w.alloc (.map #[] 0)) w.heap.size am [] by rw [ham]] at AM0
  rw [← ham]
  clear ham
  go_loopw [20] (fun i W => ∃ (k : Nat), k ≤ L.length ∧ i = .int .i64 k ∧ (∀ j, j < k → 0 ≤ (L.getD j ln0).c ∧ (L.getD j ln0).c ≤ 65535) ∧ AmAt W w.heap.size am (L.take k) ∧ Below w.heap.size w W) (fun i _ => L.length - (intOf i).toNat)
  case atStart => exact ⟨0, by omega, rfl, fun j hj => absurd hj (Nat.not_lt_zero j), AM0.out, B0.out⟩
  case round =>
    obtain ⟨k, hk, rfl, hno, ham, hb⟩ := hrel
    have HB := hide hb
    have HA := hide ham
    have HNO := hide hno
    clear hb ham hno AM0 B0
    by_cases hlt : k < L.length
    · obtain ⟨b, off, rfl, hbl, c0, c1⟩ := (HIL.out.below HB.out) k hlt
      have HTN := hide (ln_next L k hlt)
      have HXO := hide (HOK.out _ (ln_mem L k hlt))
      have HE3 := hide (fun h => appE_range (M := M) k hlt h)
      have HNX := hide (fun (h : 0 ≤ (L.getD k ln0).c ∧ (L.getD k ln0).c ≤ 65535) => show ∀ j, j < k + 1 → 0 ≤ (L.getD j ln0).c ∧ (L.getD j ln0).c ≤ 65535 from fun j hj => by
        by_cases e : j = k
        · subst e; exact h
        · exact HNO.out j (by omega))
      generalize L.getD k ln0 = x at *
      obtain ⟨xc, xn⟩ := x
      dsimp only at *
      obtain ⟨ob, hob⟩ : ∃ ob, ob = (Obj.cells #[.int .i64 xc, .int .i64 xn] 56) := ⟨_, rfl⟩
      have hal := (Below.refl wr.heap.size wr).alloc (Nat.le_refl _) ob
      have X1 := hide (show (wr.alloc ob).heap[wr.heap.size]? = some (.cells #[.int .i64 xc, .int .i64 xn] 56 (0, 0)) by rw [heap_new, hob])
      have AM1 := hide (HA.out.below hal)
      have B1 := hide (HB.out.trans (hal.mono HB.out.size))
      go_upto_region 7 with (fail)
      rw [← hob]
      clear hal HA HB hbl c0 c1
      generalize wr.alloc ob = w1 at *
      generalize wr.heap.size = q at *
      clear hob ob
      have d0 := cell_of_block X1.out 0
      have d1 := cell_of_block X1.out 1
      by_cases hx0 : 0 ≤ xc
      · by_cases hx1 : xc ≤ 65535
        · have HIN := hide (show inR xc from ⟨by omega, by omega⟩)
          have HKY := hide (key_int HIN.out)
          have HNO2 := hide (HNX.out ⟨hx0, hx1⟩)
          have g0 : ¬ xc < 0 := by omega
          have g1 : ¬ 65535 < xc := by omega
          go_upto_region 9 with (fail)
          clear g0 g1 d0 d1
          refine wp_region_held_drew (S := (fun W => W.heap[q]? = some (.cells #[.int .i64 xc, .int .i64 xn] 56 (0, 0)))) (by kernel_rfl) (X1.out) (fun hHeld => ?_)
          have AMD := AM1.out.drew
          have BD := hide B1.out.drew
          have XD := hide (show w1.drew.heap[q]? = some (.cells #[.int .i64 xc, .int .i64 xn] 56 (0, 0)) from X1.out)
          generalize w1.drew = v0 at *
          obtain ⟨f, n, c, hn, hc, HM0, HF0⟩ := AMD
          have al := (Below.refl v0.heap.size v0).alloc (Nat.le_refl _) (.cells #[.int .i64 xn] 37)
          have XB := hide (heap_new v0 (.cells #[.int .i64 xn] 37))
          have HMB := HM0.below al
          have HFB := HF0.below al
          have HPUT := hide (fun (w1 w2 : World) (g c' : Nat) hg ho hl hst => HFB.put (w1 := w1) (w2 := w2) (g := g) (c' := c') (n := xn) HIN.out hg ho hl hst)
          have hlkA := HM0.look Keyed_int Try.underlying71 (zero_row v0) HKY.out (by trivial)
          have hlkB := HMB.look Keyed_int Try.underlying71 (zero_row (v0.alloc (.cells #[.int .i64 xn] 37))) HKY.out (by trivial)
          have OA := hide (HFB.row HIN.out)
          have hxl : (amts (L.take k) xc).length ≤ 1000 := by
            have h1 := amts_len (L.take k) xc
            rw [List.length_take] at h1
            omega
          generalize (f (.int .i64 xc)).getD (.slice none 0 0) = v at *
          generalize amts (L.take k) xc = X at *
          have HMA := hide HMB
          have HNC := hide hn
          have HCC := hide hc
          have B2 := hide (BD.out.alloc BD.out.size (.cells #[.int .i64 xn] 37))
          have XA := hide ((al.block _ (heap_lt XD.out)).trans XD.out)
          have HWS := hide (show w.heap.size ≤ (v0.alloc (.cells #[.int .i64 xn] 37)).heap.size from B2.out.size)
          clear al HM0 HF0 HFB HMB hn hc AM1 B1 X1
          refine wpAnyH_take (i := 0) (oi := { dst := some 32, op := Op.move (Operand.tmp 5), type := 71, pos := "books.go:43", after := #[], guard := none }) (v := ?_) rfl (by kernel_rfl) (by kernel_rfl) (by kernel_rfl) (fun _ _ _ h => h) (Or.inl ⟨by kernel_rfl, ?_⟩) hHeld ?_
          rotate_left
          · (intro w hSw; (try dsimp only at hSw); have e0 := cell_of_block hSw 0; have e1 := cell_of_block hSw 1; go_simp); try with_reducible rfl
          try simp only [Act.put, List.setIfInBounds_toArray, List.set_cons_zero, List.set_cons_succ]
          refine wpAnyH_take (i := 1) (oi := { dst := some 33, op := Op.fieldAddr 56 (Operand.tmp 7) 0, type := 0, pos := "books.go:43", after := #[], guard := none }) (v := ?_) rfl (by kernel_rfl) (by kernel_rfl) (by kernel_rfl) (fun _ _ _ h => h) (Or.inl ⟨by kernel_rfl, ?_⟩) hHeld ?_
          rotate_left
          · (intro w hSw; (try dsimp only at hSw); have e0 := cell_of_block hSw 0; have e1 := cell_of_block hSw 1; go_simp); try with_reducible rfl
          try simp only [Act.put, List.setIfInBounds_toArray, List.set_cons_zero, List.set_cons_succ]
          refine wpAnyH_take (i := 2) (oi := { dst := some 34, op := Op.load 3 (Operand.tmp 33), type := 3, pos := "books.go:43", after := #[{ on := 1, ground := Ground.data }], guard := none }) (v := ?_) rfl (by kernel_rfl) (by kernel_rfl) (by kernel_rfl) (fun _ _ _ h => h) (Or.inl ⟨by kernel_rfl, ?_⟩) hHeld ?_
          rotate_left
          · (intro w hSw; (try dsimp only at hSw); have e0 := cell_of_block hSw 0; have e1 := cell_of_block hSw 1; go_simp); try with_reducible rfl
          try simp only [Act.put, List.setIfInBounds_toArray, List.set_cons_zero, List.set_cons_succ]
          refine wpAnyH_take (i := 3) (oi := { dst := some 35, op := Op.move (Operand.tmp 5), type := 71, pos := "books.go:43", after := #[], guard := none }) (v := ?_) rfl (by kernel_rfl) (by kernel_rfl) (by kernel_rfl) (fun _ _ _ h => h) (Or.inl ⟨by kernel_rfl, ?_⟩) hHeld ?_
          rotate_left
          · (intro w hSw; (try dsimp only at hSw); have e0 := cell_of_block hSw 0; have e1 := cell_of_block hSw 1; go_simp); try with_reducible rfl
          try simp only [Act.put, List.setIfInBounds_toArray, List.set_cons_zero, List.set_cons_succ]
          refine wpAnyH_take (i := 4) (oi := { dst := some 36, op := Op.fieldAddr 56 (Operand.tmp 7) 0, type := 0, pos := "books.go:43", after := #[], guard := none }) (v := ?_) rfl (by kernel_rfl) (by kernel_rfl) (by kernel_rfl) (fun _ _ _ h => h) (Or.inl ⟨by kernel_rfl, ?_⟩) hHeld ?_
          rotate_left
          · (intro w hSw; (try dsimp only at hSw); have e0 := cell_of_block hSw 0; have e1 := cell_of_block hSw 1; go_simp); try with_reducible rfl
          try simp only [Act.put, List.setIfInBounds_toArray, List.set_cons_zero, List.set_cons_succ]
          refine wpAnyH_take (i := 5) (oi := { dst := some 37, op := Op.load 3 (Operand.tmp 36), type := 3, pos := "books.go:43", after := #[{ on := 4, ground := Ground.data }], guard := none }) (v := ?_) rfl (by kernel_rfl) (by kernel_rfl) (by kernel_rfl) (fun _ _ _ h => h) (Or.inl ⟨by kernel_rfl, ?_⟩) hHeld ?_
          rotate_left
          · (intro w hSw; (try dsimp only at hSw); have e0 := cell_of_block hSw 0; have e1 := cell_of_block hSw 1; go_simp); try with_reducible rfl
          try simp only [Act.put, List.setIfInBounds_toArray, List.set_cons_zero, List.set_cons_succ]
          refine wpAnyH_take (i := 7) (oi := { dst := some 39, op := Op.fieldAddr 56 (Operand.tmp 7) 1, type := 0, pos := "books.go:43", after := #[], guard := none }) (v := ?_) rfl (by kernel_rfl) (by kernel_rfl) (by kernel_rfl) (fun _ _ _ h => h) (Or.inl ⟨by kernel_rfl, ?_⟩) hHeld ?_
          rotate_left
          · (intro w hSw; (try dsimp only at hSw); have e0 := cell_of_block hSw 0; have e1 := cell_of_block hSw 1; go_simp); try with_reducible rfl
          try simp only [Act.put, List.setIfInBounds_toArray, List.set_cons_zero, List.set_cons_succ]
          refine wpAnyH_take (i := 8) (oi := { dst := some 40, op := Op.load 37 (Operand.tmp 39), type := 37, pos := "books.go:43", after := #[{ on := 7, ground := Ground.data }], guard := none }) (v := ?_) rfl (by kernel_rfl) (by kernel_rfl) (by kernel_rfl) (fun _ _ _ h => h) (Or.inl ⟨by kernel_rfl, ?_⟩) hHeld ?_
          rotate_left
          · (intro w hSw; (try dsimp only at hSw); have e0 := cell_of_block hSw 0; have e1 := cell_of_block hSw 1; go_simp); try with_reducible rfl
          try simp only [Act.put, List.setIfInBounds_toArray, List.set_cons_zero, List.set_cons_succ]
          refine wpAnyH_ready (rs := [6, 9]) (by kernel_rfl) (by simp) (AllReadyH.cons (o := { dst := some 38, op := Op.lookup 71 (Operand.tmp 35) (Operand.tmp 37) false, type := 72, pos := "books.go:43", after := #[{ on := 3, ground := Ground.data }, { on := 5, ground := Ground.data }], guard := none }) rfl (fun K hK => ?_) (AllReadyH.cons (o := { dst := some 41, op := Op.buildSlice 72 1 #[(0, Operand.tmp 40)], type := 72, pos := "books.go:43", after := #[{ on := 8, ground := Ground.data }], guard := none }) rfl (fun K hK => ?_) AllReadyH.nil))
          · have hOld := hide hHeld
            clear hHeld
            go_simp
            skip
            (try go_wp2_with fail)
            refine hK.out _ _ (hOld.out) (fun hHeld => ?_)
            clear hK K hOld
            try simp only [Act.put, List.setIfInBounds_toArray, List.set_cons_zero, List.set_cons_succ]
            refine wpAnyH_ready (rs := [9]) (by kernel_rfl) (by simp) (AllReadyH.cons (o := { dst := some 41, op := Op.buildSlice 72 1 #[(0, Operand.tmp 40)], type := 72, pos := "books.go:43", after := #[{ on := 8, ground := Ground.data }], guard := none }) rfl (fun K hK => ?_) AllReadyH.nil)
            have hOld := hide hHeld
            clear hHeld
            go_simp
            skip
            (try go_wp2_with fail)
            refine hK.out _ _ (XA.out) (fun hHeld => ?_)
            clear hK K hOld
            try simp only [Act.put, List.setIfInBounds_toArray, List.set_cons_zero, List.set_cons_succ]
            refine wpAnyH_ready (rs := [10]) (by kernel_rfl) (by simp) (AllReadyH.cons (o := { dst := some 42, op := Op.call { callee := Callee.builtin Builtin.append, args := #[Operand.tmp 38, Operand.tmp 41], argTypes := #[72, 72] }, type := 72, pos := "books.go:43", after := #[{ on := 6, ground := Ground.data }, { on := 9, ground := Ground.data }], guard := none }) rfl (fun K hK => ?_) AllReadyH.nil)
            have hOld := hide hHeld
            clear hHeld
            refine wp_append_own2 _ (.tmp 38) (.tmp 41) 72 rfl w.heap.size 37 i0 (.int .i64 0) 1 8 Try.underlying72 HI.out HZ0.out HZ1.out HZ2.out rfl (by decide) v X.length (X.map (Value.int .i64)) rfl OA.out ⟨v0.heap.size, 0, none⟩ 1 1 (by decide) [.int .i64 xn] rfl rfl (cells_new XB.out) (one_int _) (by unfold maxLen; omega) (by omega) HWS.out ?_
            intro g3 c3' w3 ho hgr hnil
            have O3 := hide ho
            have G3 := hide hgr
            have L3 := hide hnil
            have M3 := hide (HMA.out.kept (grown_other OA.out hgr HMA.out.lt HMA.out.noCells))
            have B3 := hide (B2.out.grown hgr B2.out.size (fun jj h => (OA.out.lt jj h).1))
            have X3 := hide (grown_stays OA.out hgr XA.out (by decide))
            clear ho hgr hnil hlkA hlkB
            refine hK.out _ _ (X3.out) (fun hHeld => ?_)
            clear hK K hOld
            try simp only [Act.put, List.setIfInBounds_toArray, List.set_cons_zero, List.set_cons_succ]
            refine wpAnyH_ready (rs := [11]) (by kernel_rfl) (by simp) (AllReadyH.cons (o := { dst := none, op := Op.mapUpdate 71 (Operand.tmp 32) (Operand.tmp 34) (Operand.tmp 42), type := 0, pos := "books.go:43", after := #[{ on := 0, ground := Ground.data }, { on := 2, ground := Ground.data }, { on := 10, ground := Ground.data }, { on := 10, ground := Ground.chain }, { on := 0, ground := Ground.phase }, { on := 1, ground := Ground.phase }, { on := 2, ground := Ground.phase }, { on := 3, ground := Ground.phase }, { on := 4, ground := Ground.phase }, { on := 5, ground := Ground.phase }, { on := 6, ground := Ground.phase }, { on := 7, ground := Ground.phase }, { on := 8, ground := Ground.phase }, { on := 9, ground := Ground.phase }, { on := 10, ground := Ground.phase }], guard := none }) rfl (fun K hK => ?_) AllReadyH.nil)
            have hOld := hide hHeld
            clear hHeld
            refine wp_mapStore _ (.tmp 32) (.tmp 34) (.tmp 42) 71 rfl 3 72 Keyed_int Try.underlying71 am n c f rfl M3.out (by have := HNC.out; rw [List.length_take] at this; unfold maxLen; omega) (.int .i64 xc) (.slice (some ⟨g3, 0, none⟩) (X.length + 1) c3') (.int .i64 xc) rfl rfl HKY.out (by trivial) ?_
            intro w4 hm4 hg4
            have M4 := hide hm4
            have G4 := hide (only_of_grown hg4)
            have X4 := hide ((G4.out.block _ (heap_lt X3.out) (fun e => M3.out.noCells _ _ _ (e ▸ X3.out))).trans X3.out)
            clear hm4 hg4
            refine hK.out _ _ (X4.out) (fun hHeld => ?_)
            clear hK K hOld
            try simp only [Act.put, List.setIfInBounds_toArray, List.set_cons_zero, List.set_cons_succ]
            refine wpAnyH_done (by kernel_rfl) ?_ _
            clear hHeld
            have A4 : AmAt w4 w.heap.size am (L.take (k + 1)) := by
              rw [HTN.out]
              refine ⟨_, n + 1, _, ?_, ?_, M4.out, HPUT.out w3 w4 g3 c3' G3.out O3.out L3.out (fun m v xs h => only_rows G4.out M3.out.noCells h)⟩
              · have := HNC.out
                rw [List.length_append, List.length_singleton]
                omega
              · have := HCC.out
                rw [List.length_append, List.length_singleton]
                split <;> omega
            have B4 := hide (G4.out.below B3.out HAM.out B3.out.size)
            have A4' := hide A4
            clear A4
            go_wp2_with fail
            go_roundw
            case rel => exact ⟨k + 1, by omega, by go_num, HNO2.out, A4'.out, B4.out⟩
            case measure => simp [intOf]; omega
            
          · have hOld := hide hHeld
            clear hHeld
            go_simp
            skip
            (try go_wp2_with fail)
            refine hK.out _ _ (XA.out) (fun hHeld => ?_)
            clear hK K hOld
            try simp only [Act.put, List.setIfInBounds_toArray, List.set_cons_zero, List.set_cons_succ]
            refine wpAnyH_ready (rs := [6]) (by kernel_rfl) (by simp) (AllReadyH.cons (o := { dst := some 38, op := Op.lookup 71 (Operand.tmp 35) (Operand.tmp 37) false, type := 72, pos := "books.go:43", after := #[{ on := 3, ground := Ground.data }, { on := 5, ground := Ground.data }], guard := none }) rfl (fun K hK => ?_) AllReadyH.nil)
            have hOld := hide hHeld
            clear hHeld
            go_simp
            skip
            (try go_wp2_with fail)
            refine hK.out _ _ (hOld.out) (fun hHeld => ?_)
            clear hK K hOld
            try simp only [Act.put, List.setIfInBounds_toArray, List.set_cons_zero, List.set_cons_succ]
            refine wpAnyH_ready (rs := [10]) (by kernel_rfl) (by simp) (AllReadyH.cons (o := { dst := some 42, op := Op.call { callee := Callee.builtin Builtin.append, args := #[Operand.tmp 38, Operand.tmp 41], argTypes := #[72, 72] }, type := 72, pos := "books.go:43", after := #[{ on := 6, ground := Ground.data }, { on := 9, ground := Ground.data }], guard := none }) rfl (fun K hK => ?_) AllReadyH.nil)
            have hOld := hide hHeld
            clear hHeld
            refine wp_append_own2 _ (.tmp 38) (.tmp 41) 72 rfl w.heap.size 37 i0 (.int .i64 0) 1 8 Try.underlying72 HI.out HZ0.out HZ1.out HZ2.out rfl (by decide) v X.length (X.map (Value.int .i64)) rfl OA.out ⟨v0.heap.size, 0, none⟩ 1 1 (by decide) [.int .i64 xn] rfl rfl (cells_new XB.out) (one_int _) (by unfold maxLen; omega) (by omega) HWS.out ?_
            intro g3 c3' w3 ho hgr hnil
            have O3 := hide ho
            have G3 := hide hgr
            have L3 := hide hnil
            have M3 := hide (HMA.out.kept (grown_other OA.out hgr HMA.out.lt HMA.out.noCells))
            have B3 := hide (B2.out.grown hgr B2.out.size (fun jj h => (OA.out.lt jj h).1))
            have X3 := hide (grown_stays OA.out hgr XA.out (by decide))
            clear ho hgr hnil hlkA hlkB
            refine hK.out _ _ (X3.out) (fun hHeld => ?_)
            clear hK K hOld
            try simp only [Act.put, List.setIfInBounds_toArray, List.set_cons_zero, List.set_cons_succ]
            refine wpAnyH_ready (rs := [11]) (by kernel_rfl) (by simp) (AllReadyH.cons (o := { dst := none, op := Op.mapUpdate 71 (Operand.tmp 32) (Operand.tmp 34) (Operand.tmp 42), type := 0, pos := "books.go:43", after := #[{ on := 0, ground := Ground.data }, { on := 2, ground := Ground.data }, { on := 10, ground := Ground.data }, { on := 10, ground := Ground.chain }, { on := 0, ground := Ground.phase }, { on := 1, ground := Ground.phase }, { on := 2, ground := Ground.phase }, { on := 3, ground := Ground.phase }, { on := 4, ground := Ground.phase }, { on := 5, ground := Ground.phase }, { on := 6, ground := Ground.phase }, { on := 7, ground := Ground.phase }, { on := 8, ground := Ground.phase }, { on := 9, ground := Ground.phase }, { on := 10, ground := Ground.phase }], guard := none }) rfl (fun K hK => ?_) AllReadyH.nil)
            have hOld := hide hHeld
            clear hHeld
            refine wp_mapStore _ (.tmp 32) (.tmp 34) (.tmp 42) 71 rfl 3 72 Keyed_int Try.underlying71 am n c f rfl M3.out (by have := HNC.out; rw [List.length_take] at this; unfold maxLen; omega) (.int .i64 xc) (.slice (some ⟨g3, 0, none⟩) (X.length + 1) c3') (.int .i64 xc) rfl rfl HKY.out (by trivial) ?_
            intro w4 hm4 hg4
            have M4 := hide hm4
            have G4 := hide (only_of_grown hg4)
            have X4 := hide ((G4.out.block _ (heap_lt X3.out) (fun e => M3.out.noCells _ _ _ (e ▸ X3.out))).trans X3.out)
            clear hm4 hg4
            refine hK.out _ _ (X4.out) (fun hHeld => ?_)
            clear hK K hOld
            try simp only [Act.put, List.setIfInBounds_toArray, List.set_cons_zero, List.set_cons_succ]
            refine wpAnyH_done (by kernel_rfl) ?_ _
            clear hHeld
            have A4 : AmAt w4 w.heap.size am (L.take (k + 1)) := by
              rw [HTN.out]
              refine ⟨_, n + 1, _, ?_, ?_, M4.out, HPUT.out w3 w4 g3 c3' G3.out O3.out L3.out (fun m v xs h => only_rows G4.out M3.out.noCells h)⟩
              · have := HNC.out
                rw [List.length_append, List.length_singleton]
                omega
              · have := HCC.out
                rw [List.length_append, List.length_singleton]
                split <;> omega
            have B4 := hide (G4.out.below B3.out HAM.out B3.out.size)
            have A4' := hide A4
            clear A4
            go_wp2_with fail
            go_roundw
            case rel => exact ⟨k + 1, by omega, by go_num, HNO2.out, A4'.out, B4.out⟩
            case measure => simp [intOf]; omega
            
        · have HE := hide (HE3.out (fun h => hx1 h.2))
          have g1 : 65535 < xc := by omega
          have g0 : ¬ xc < 0 := by omega
          go_wp2_with fail
          go_ret
          exact ⟨ret_int HE.out.symm, by rw [show nextB M L = M from if_neg (by rw [HE.out]; decide)]; exact (HBK.out.below B1.out).mono (Nat.le_add_right _ _), Only.of_below B1.out⟩
      · have HE := hide (HE3.out (fun h => hx0 h.1))
        have g0 : xc < 0 := by omega
        go_wp2_with fail
        go_ret
        exact ⟨ret_int HE.out.symm, by rw [show nextB M L = M from if_neg (by rw [HE.out]; decide)]; exact (HBK.out.below B1.out).mono (Nat.le_add_right _ _), Only.of_below B1.out⟩
    · obtain rfl : k = L.length := by omega
      rw [List.take_length] at HA
      have HALL := hide (all_of HNO.out)
      obtain ⟨f, n, c, hn, hc, hm, hf⟩ := HA.out
      have HM := hide hm
      have HF := hide hf
      have HCL := hide hc
      clear hm hf hn hc HA
      have hal := (Below.refl wr.heap.size wr).alloc (Nat.le_refl _) (.map #[] 0)
      have SM0 := hide (MapIs.made wr Try.prog 3)
      have HM1 := hide (HM.out.below hal)
      have HF1 := hide (HF.out.below hal)
      have B1 := hide (HB.out.trans (hal.mono HB.out.size))
      have hsz1 : (wr.alloc (.map #[] 0)).heap.size = wr.heap.size + 1 := by simp
      obtain ⟨sm, hsm⟩ : ∃ sm, sm = wr.heap.size := ⟨_, rfl⟩
      have HSM := hide (show w.heap.size ≤ sm by have := HB.out.size; omega)
      have HNE := hide (show am ≠ sm by have := HM.out.lt; omega)
      go_wp2_with (at_range; refine wpList_mapRange _ rfl _ 71 rfl 3 72 Keyed_int Try.underlying71 am n c f rfl HM1.out ?_; intro w5 left0 hrg hle hgr hsz; have RG0 := hide hrg; have LE0 := hide hle; have G5 := hide hgr; clear hrg hle hgr hsz)
      go_frame
      rw [← hsm]
      have SM1 := hide (SM0.out.kept (G5.out.block _ SM0.out.lt (by simp)))
      rw [← hsm] at SM1
      have B5 := hide (B1.out.trans (⟨G5.out.os, G5.out.tape, G5.out.output, G5.out.size, fun j hj => G5.out.block j (by have := B1.out.size; omega) (by simp)⟩ : Below w.heap.size _ _))
      have BB5 : Below (wr.alloc (.map #[] 0)).heap.size (wr.alloc (.map #[] 0)) w5 := ⟨G5.out.os, G5.out.tape, G5.out.output, G5.out.size, fun j hj => G5.out.block j hj (by simp)⟩
      have HF5 := hide (HF1.out.below BB5)
      have BK5 := hide (HBK.out.below B5.out)
      rw [hsz1] at RG0 ⊢
      obtain ⟨r, hr⟩ : ∃ r, r = wr.heap.size + 1 := ⟨_, rfl⟩
      rw [← hr] at RG0 ⊢
      have HRW := hide (show w.heap.size ≤ r by have := HB.out.size; omega)
      have HRS := hide (show r ≠ sm by omega)
      have RL0 := hide (show RowsL w5 w.heap.size L f left0 from fun a ha hl => by
        rw [LE0.out _ (by trivial)] at hl
        cases hb : hasB L a with
        | false => rw [HF5.out.no a ha hb] at hl; cases hl
        | true => exact ⟨rfl, HF5.out.yes a ha hb⟩)
      have SF0 := hide (show SumF M L left0 (fun _ => none) from fun a ha => by
        rw [LE0.out _ (by trivial)]
        cases hb : hasB L a with
        | false => simp
        | true =>
          obtain ⟨v, hv, -⟩ := HF5.out.yes a ha hb
          rw [hv]; simp)
      have SI0 := hide (show SeenIn M L left0 from fun a ha hb hl => by
        rw [LE0.out _ (by trivial)] at hl
        obtain ⟨v, hv, -⟩ := HF5.out.yes a ha hb
        rw [hv] at hl; cases hl)
      have HAP := hide HF5.out.apart
      have HFN := hide HF5.out.no
      clear BB5 hal HM HF HM1 HF1 HF5 SM0 G5 LE0 B1 HB hsz1 hr hsm HNO
      go_loopw [] (fun W => ∃ (left : Lit → Bool) (cnt n' c' : Nat) (f' : Lit → Option Value), n' + cnt ≤ c ∧ c' ≤ n' ∧ RgIs W Try.prog 3 am r cnt f left ∧ RowsL W w.heap.size L f left ∧ SumF M L left f' ∧ SeenIn M L left ∧ MapIs W Try.prog 3 sm n' c' f' ∧ Below w.heap.size w W) (fun W => W.rangeLeft am r)
      case atStart => exact ⟨left0, c, 0, 0, _, by omega, Nat.le_refl _, RG0.out, RL0.out, SF0.out, SI0.out, SM1.out, B5.out⟩
      case round =>
        obtain ⟨left, cnt, n', c', f', hcnt, hcn, hrg, hrl, hsf, hsi, hmp, hbw⟩ := hrel
        have RG := hide hrg
        have RL := hide hrl
        have SF := hide hsf
        have SI := hide hsi
        have MP := hide hmp
        have BW := hide hbw
        clear hrg hrl hsf hsi hmp hbw RG0 RL0 SF0 SI0 SM1 B5 BK5
        go_wp2_with (at_next; refine wpList_mapNext _ rfl _ rfl 3 .i64 Keyed_int Try.underlying3 am r cnt f left rfl RG.out ?_ ?_)
        · intro hc0 hl0
          have HL0 := hide hl0
          have hal : Below w.heap.size w wr := BW.out
          have BK0 := hide (HBK.out.below hal)
          have HBL := hide HBK.out.lt.1
          have HTI := hide (show ∀ x ∈ L, inR (totB M L x.c) from fun x hx => SI.out x.c (by have := HALL.out x hx; exact ⟨by omega, by omega⟩) (by unfold hasB; exact List.any_eq_true.2 ⟨x, hx, by simp⟩) (hl0 _))
          have SFX := hide (show ∀ a, inR a → f' (.int .i64 a) = if hasB L a = true then some (.int .i64 (totB M L a)) else none from fun a ha => by
            rw [SF.out a ha, hl0]; simp)
          have HWS := hide (show w.heap.size ≤ wr.heap.size from BW.out.size)
          clear hal hl0 RL SF SI RG
          go_wp2_with (at_range; refine wpList_mapRange _ rfl _ 60 rfl 3 37 Keyed_int Try.underlying60 sm n' c' f' rfl MP.out ?_; intro w5 left2 hrg hle hgr hsz; have RG5 := hide hrg; have LE5 := hide hle; have G5 := hide hgr; clear hrg hle hgr hsz)
          go_frame
          have hB5 : Below wr.heap.size wr w5 := ⟨G5.out.os, G5.out.tape, G5.out.output, G5.out.size, fun j hj => G5.out.block j hj (by simp)⟩
          have BK5 := hide (BK0.out.below (hB5.mono (Nat.le_refl _)))
          have O5 := hide (Only.of_below (q := bm) (BW.out.trans (hB5.mono HWS.out)))
          obtain ⟨r2, hr2⟩ : ∃ r2, r2 = wr.heap.size := ⟨_, rfl⟩
          rw [← hr2] at RG5 ⊢
          have HR2 := hide (show w.heap.size ≤ r2 by have := HWS.out; omega)
          clear hr2 hB5 G5 BK0 BW MP HWS
          have LF0 := hide (show ∀ a, inR a → hasB L a = true → left2 (.int .i64 a) = true from fun a ha hb => by
            rw [LE5.out _ (by trivial), SFX.out a ha, if_pos hb]; rfl)
          have SS0 := hide (SetSo.start (M := M) LF0.out)
          clear LE5 LF0
          go_loopw [] (fun W => ∃ (left : Lit → Bool) (cnt : Nat) (O : List LnM), cnt ≤ c' ∧ RgIs W Try.prog 3 sm r2 cnt f' left ∧ SetSo M L left O ∧ BooksIs (N + (c' - cnt)) W p bm O ∧ Only bm w W) (fun W => W.rangeLeft sm r2)
          case atStart => exact ⟨left2, c', M, Nat.le_refl _, RG5.out, SS0.out, by rw [Nat.sub_self]; exact BK5.out, O5.out⟩
          case round =>
            obtain ⟨left3, cnt3, O, hc3, hrg, hss, hbk, hon⟩ := hrel
            have RG := hide hrg
            have SS := hide hss
            have BK := hide hbk
            have ON := hide hon
            clear hrg hss hbk hon RG5 SS0 BK5 O5
            go_wp2_with (at_next; refine wpList_mapNext _ rfl _ rfl 3 .i64 Keyed_int Try.underlying3 sm r2 cnt3 f' left3 rfl RG.out ?_ ?_)
            · intro hc4 hl4
              obtain ⟨h0, rfl⟩ := SS.out.done HBK.out.rise HBK.out.nz hl4 HALL.out HTI.out
              have HE := hide h0
              clear hl4 h0
              go_wp2_with fail
              go_ret
              exact ⟨ret_int HE.out.symm, BK.out.mono (by have := HCL.out; omega), ON.out⟩
            · intro x v w1 cnt4 hwx hlx hfx hrg1 hlt4 hg1 hs1 hen
              have HXI := hide (show inR x from wf_i64 hwx)
              have hfx2 := SFX.out x HXI.out
              rw [hfx] at hfx2
              have hbx : hasB L x = true := by
                cases hb : hasB L x with
                | true => rfl
                | false => rw [hb] at hfx2; simp at hfx2
              rw [if_pos hbx] at hfx2
              obtain rfl := Option.some.inj hfx2
              have HO1 := hide (only_of_grown hg1)
              have HXR := hide (show 0 ≤ x ∧ x ≤ 65535 from by obtain ⟨y, hy, rfl⟩ := has_in hbx; exact HALL.out y hy)
              have HXT := hide (show inR (totB M L x) from by obtain ⟨y, hy, rfl⟩ := has_in hbx; exact HTI.out y hy)
              have HRB := hide (show bm ≠ r2 by have := HBL.out; have := HR2.out; omega)
              have HPR := hide (show p ≠ r2 by have := HBK.out.lt.2; have := HR2.out; omega)
              have BK1 := hide (BK.out.kept (HO1.out.block _ BK.out.lt.2 HPR.out) (HO1.out.block _ BK.out.lt.1 HRB.out))
              have SS1 := hide (SS.out.next HXI.out hbx)
              have ON1 := hide (show Only bm w w1 from ⟨HO1.out.os.trans ON.out.os, HO1.out.tape.trans ON.out.tape, HO1.out.output.trans ON.out.output, Nat.le_trans ON.out.size HO1.out.size, fun j hj hq => (HO1.out.block j (Nat.lt_of_lt_of_le hj ON.out.size) (by have := HR2.out; omega)).trans (ON.out.block j hj hq)⟩)
              have RG1 := hide hrg1
              have HLT := hide hlt4
              have HMB := hide (show bm ≠ sm by have := HBL.out; have := HSM.out; omega)
              have RGL := hide RG.out.rangeLeft
              clear hwx hlx hfx hrg1 hg1 hs1 hbx RG SS BK ON hlt4
              have HSET := hide (bkSet (N + (c' - cnt3)) (by have := HCL.out; omega) p bm O x (totB M L x) HXR.out HXT.out w1 BK1.out)
              generalize totB M L x = t at *
              go_wp2_with fail
              refine HSET.out.mono ?_
              rintro e w2 ⟨rfl, hbk, ho⟩
              have BK2 := hide hbk
              have ON2 := hide (ON1.out.trans ho)
              have RG2 := hide (RG1.out.only ho (fun e => HMB.out e.symm) (fun e => HRB.out e.symm))
              clear hbk ho
              go_wp2_with fail
              go_roundw
              case rel => exact ⟨_, cnt4, _, by have := HLT.out; omega, RG2.out, SS1.out, BK2.out.mono (by have := HLT.out; omega), ON2.out⟩
              case measure => rw [RG2.out.rangeLeft, RGL.out]; exact HLT.out
        · intro x v w1 cnt1 hwx hlx hfx hrg1 hlt hg1 hs1 hen
          have HXI := hide (show inR x from wf_i64 hwx)
          obtain ⟨hbx, v', hv', hov⟩ := RL.out x HXI.out hlx
          obtain rfl : v' = v := by rw [hfx] at hv'; exact (Option.some.inj hv').symm
          have HBX := hide hbx
          have HFX := hide hfx
          have HO1 := hide (only_of_grown hg1)
          have OV1 := hide (only_rows HO1.out RG.out.noCells.1 hov)
          have RL1 := hide (RL.out.kept (fun m v xs h => only_rows HO1.out RG.out.noCells.1 h))
          have MP1 := hide (MP.out.only HO1.out (fun e => HRS.out e.symm))
          have BW1 := hide (HO1.out.below BW.out HRW.out BW.out.size)
          have RG1 := hide hrg1
          have RGL := hide RG.out.rangeLeft
          have HLT := hide hlt
          have HXR := hide (show 0 ≤ x ∧ x ≤ 65535 from by obtain ⟨y, hy, rfl⟩ := has_in hbx; exact HALL.out y hy)
          obtain ⟨va, vc, rfl⟩ := owns_split hov
          clear hwx hlx hfx hrg1 hg1 hs1 hbx hv' hov RG RL MP BW hlt
          have BK1 := hide (HBK.out.below BW1.out)
          have hal := (Below.refl w1.heap.size w1).alloc (Nat.le_refl _) (.cells #[.int .i64 (getB M x)] 37)
          have XB := hide (heap_new w1 (.cells #[.int .i64 (getB M x)] 37))
          have OV2 := hide (owns_below OV1.out hal)
          have RL2 := hide (RL1.out.kept (fun m v xs h => owns_below h hal))
          have MP2 := hide (MP1.out.below hal)
          have RG2 := hide (RG1.out.below hal)
          have BW2 := hide (BW1.out.trans (hal.mono BW1.out.size))
          have HWS := hide (show w.heap.size ≤ (w1.alloc (.cells #[.int .i64 (getB M x)] 37)).heap.size from BW2.out.size)
          have hxl := amts_len L x
          have HAI := hide (amts_in (fun y hy => (HOK.out y hy).2) x)
          have HGI := hide (show inR (getB M x) from by
            by_cases e : getB M x = 0
            · rw [e]; unfold inR; omega
            · cases hbm : hasB M x with
              | false => exact absurd ((hasB_get HBK.out.nz x).1 hbm) e
              | true =>
                obtain ⟨y, hy, rfl⟩ := has_in hbm
                rw [getB_in HBK.out.rise hy]
                exact (HBK.out.ok y hy).1)
          have HSM2 := hide (show (amts L x ++ [getB M x]).sum = totB M L x by
            rw [List.sum_append, amts_sum]; unfold totB; simp; omega)
          have hlk := BK1.out.at1 HXI.out
          have e0 := cell_of_block BK1.out.head 0
          generalize amts L x = X at *
          generalize getB M x = gb at *
          clear hal OV1 RL1 MP1 RG1 BW1
          go_wp2_with (at_builtin; refine wpList_append_own2 _ rfl _ _ 72 rfl w.heap.size 37 i0 (.int .i64 0) 1 8 Try.underlying72 HI.out HZ0.out HZ1.out HZ2.out rfl (by decide) (.slice va X.length vc) X.length (X.map (Value.int .i64)) rfl OV2.out ⟨w1.heap.size, 0, none⟩ 1 1 (by decide) [.int .i64 gb] rfl rfl (cells_new XB.out) (one_int _) (by unfold maxLen; omega) (by omega) HWS.out ?_; intro g3 c3' w3 ho hgr hnil; have O3 := hide (show w3.ownsRow w.heap.size 37 1 (.slice (some ⟨g3, 0, none⟩) (X ++ [gb]).length c3') (X ++ [gb]).length ((X ++ [gb]).map (Value.int .i64)) by simpa using ho); have RL3 := hide (RL2.out.next HAP.out HXI.out HFX.out hgr); have MP3 := hide (MP2.out.kept (grown_other OV2.out hgr MP2.out.lt MP2.out.noCells)); have RG3 := hide (RG2.out.kept (grown_other OV2.out hgr RG2.out.lt.1 RG2.out.noCells.2) (grown_other OV2.out hgr RG2.out.lt.2.1 RG2.out.noCells.1)); have BW3 := hide (BW2.out.grown hgr BW2.out.size (fun jj hj => (OV2.out.lt jj hj).1)); clear ho hgr hnil)
          have HT := hide (total_owns (X ++ [gb]) (fun y hy => by
            rcases List.mem_append.1 hy with h | h
            · exact HAI.out y h
            · rw [List.mem_singleton.1 h]; exact HGI.out) (by simp; omega) (some ⟨g3, 0, none⟩) c3' _ w3 O3.out)
          rw [HSM2.out] at HT
          rw [List.length_append, List.length_singleton] at HT
          refine HT.out.mono ?_
          rintro e w4 ⟨rfl, rfl⟩
          have HOV := hide (fun h => appE_over (M := M) HALL.out HBX.out h)
          have HSF := hide (SF.out.next HBX.out)
          have HSI := hide (fun (h : inR (totB M L x)) => SI.out.next h)
          clear HT hlk e0 RL2 MP2 RG2 BW2 OV2 XB
          by_cases ht : inR (totB M L x)
          · obtain ⟨h1, h2⟩ := sum_in ht
            rw [h1, h2]
            have HTI := hide (HSI.out ht)
            generalize totB M L x = t at *
            clear h1 h2 ht HOV HSI
            go_wp2_with (at_mapUpdate; refine wpList_mapStore _ rfl _ _ _ 60 rfl 3 37 Keyed_int Try.underlying60 sm n' c' f' rfl MP3.out (by have := HCL.out; unfold maxLen; omega) (.int .i64 x) (.int .i64 t) (.int .i64 x) rfl rfl (key_int HXI.out) (by trivial) ?_; intro w5 hm5 hg5; have MP5 := hide hm5; have HO5 := hide (only_of_grown hg5); clear hm5 hg5; go_frame)
            have RG5 := hide (RG3.out.only HO5.out HNE.out HRS.out)
            go_roundw
            case rel => exact ⟨_, cnt1, n' + 1, _, _, by have := HLT.out; omega, by split <;> omega, RG5.out, RL3.out.kept (fun m v xs h => only_rows HO5.out MP3.out.noCells h), HSF.out, HTI.out, MP5.out, HO5.out.below BW3.out HSM.out BW3.out.size⟩
            case measure => rw [RG5.out.rangeLeft, RGL.out]; exact HLT.out
          · obtain ⟨h1, h2⟩ := sum_out ht
            rw [h1, h2]
            have HE := hide (HOV.out ht)
            clear h1 h2 ht HOV
            go_wp2_with fail
            go_ret
            exact ⟨ret_int HE.out.symm, by rw [show nextB M L = M from if_neg (by rw [HE.out]; decide)]; exact (HBK.out.below BW3.out).mono (Nat.le_add_right _ _), Only.of_below BW3.out⟩
end Go.Proofs.Ytjnfmgbbhiklaaa
