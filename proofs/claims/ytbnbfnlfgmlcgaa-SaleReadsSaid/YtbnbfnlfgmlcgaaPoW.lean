/-
  The fields of a posting: the bytes; Write; the document's Text (as in layer 22).
-/
import Derived.Test.YtbnbfnlfgmlcgaaPo
import Derived.Test.YtbnbfnlfgmlcgaaCurW
import Derived.Test.YtbnbfnlfgmlcgaaCur6

namespace Go.Proofs.Ytbnbfnlfgmlcgaa
set_option linter.unusedSimpArgs false
set_option linter.unusedVariables false
open Go.RowKit Go.WideShapes Go.ChangeShapes Go.ChangeAt Go.Deep

def codeOk (x : LnM) : Bool := decide (0 ≤ x.c ∧ x.c ≤ 65535)
def lnT (x : LnM) : List UInt8 := putS (IntKind.u64.wrap x.c) 2 ++ putS (IntKind.u64.wrap x.n) 8
def poT (L : List LnM) : List UInt8 := putS (L.length : Int) 1 ++ L.flatMap lnT
def badC (L : List LnM) : Bool := L.any fun x => !codeOk x
def textOk (L : List LnM) : Bool := decide (L.length ≤ 8) && !badC L
theorem fitsP (n : Nat) (h : n ≤ 255) : fitsB ((n : Int)).toNat 1 = true := by
  rw [Int.toNat_natCast]
  unfold fitsB
  exact decide_eq_true ⟨by decide, by decide, by show n < 256 ^ 1; omega⟩
theorem fits8 (n : Int) : fitsB (IntKind.u64.wrap n).toNat 8 = true := by
  unfold fitsB
  refine decide_eq_true ⟨by decide, by decide, ?_⟩
  show (IntKind.u64.wrap n).toNat < 256 ^ 8
  rw [IntKind.wrap_u64]
  omega
theorem fits0 (n : Nat) : fitsB n 0 = false := by unfold fitsB; exact decide_eq_false (by omega)
theorem fits2 (c : Int) (h : inR c) : fitsB (IntKind.u64.wrap c).toNat 2 = decide (0 ≤ c ∧ c ≤ 65535) := by
  unfold fitsB
  rw [decide_eq_decide]
  show (1 ≤ (2 : Int) ∧ (2 : Int) ≤ 8 ∧ (IntKind.u64.wrap c).toNat < 256 ^ 2) ↔ _
  obtain ⟨h1, h2⟩ := h
  rw [IntKind.wrap_u64]
  constructor
  · rintro ⟨-, -, h3⟩; omega
  · intro h3; exact ⟨by decide, by decide, by omega⟩
theorem badC_next (L : List LnM) (k : Nat) (h : k < L.length) : badC (L.take (k + 1)) = (badC (L.take k) || !codeOk (L.getD k ln0)) := by
  rw [ln_next L k h]; simp [badC]
theorem lnT_len (x : LnM) : (lnT x).length ≤ 16 := by
  unfold lnT
  rw [List.length_append]
  have := putS_le (IntKind.u64.wrap x.c) 2
  have := putS_le (IntKind.u64.wrap x.n) 8
  omega
theorem lnTs_next (L : List LnM) (k : Nat) (h : k < L.length) : (L.take (k + 1)).flatMap lnT = (L.take k).flatMap lnT ++ lnT (L.getD k ln0) := by
  rw [ln_next L k h, List.flatMap_append]; simp
/-- what Write of a posting leaves in a writer -/
def PWriteF (w0 : World) (q : Nat) (l0 : List UInt8) (b0 : Bool) (L : List LnM) (e : Ending) (w' : World) : Prop := e = .returned (.tuple #[]) ∧ ∃ l, WrAt w' w0.heap.size q l (b0 || !textOk L) ∧ (b0 = false → textOk L = true → l = l0 ++ poT L) ∧ l.length ≤ l0.length + 400 ∧ Below w0.heap.size w0 w'
set_option maxRecDepth 100000 in
set_option maxHeartbeats 400000 in
theorem pwrite_from (l0 : List UInt8) (hl0 : l0.length ≤ 1000) (b0 : Bool) (L : List LnM) (hL : L.length ≤ 20) (hok : ∀ x ∈ L, LnOk x) (a : Option Addr) (cap q : Nat) (w0 w : World) (hin : LnIn w0 a L) (hlow : Below w0.heap.size w0 w) (hW : WrAt w w0.heap.size q l0 b0) (hBq : w0.heap.size ≤ q) :
    Calls Try.prog 39 #[.slice a L.length cap, .pointer (some ⟨q, 0, none⟩)] w (PWriteF w0 q l0 b0 L) := by
  have HIN := hide hin
  have HOK := hide hok
  have HBQ := hide hBq
  have WA := hide hW
  have BA := hide hlow
  have HN0 := hide (fun W hw => wnumber_k w0.heap.size q l0 b0 (by omega) (L.length : Int) (by omega) (by omega) 1 W hw hBq)
  have hz1 : b0 = false → wrL l0 (putS (L.length : Int) 1) b0 true = l0 ++ putS (L.length : Int) 1 := fun h => by rw [h]; rfl
  have hz2 : (wrL l0 (putS (L.length : Int) 1) b0 true).length ≤ l0.length + 8 := by
    have := putS_le (L.length : Int) 1
    unfold wrL
    split
    · omega
    · rw [List.length_append]; omega
  rw [fitsP L.length (by omega), show wrB b0 true = b0 by cases b0 <;> rfl] at HN0
  generalize wrL l0 (putS (L.length : Int) 1) b0 true = lz at *
  have HZ1 := hide hz1
  have HZ2 := hide hz2
  have hlw : IntKind.u64.wrap (L.length : Int) = (L.length : Int) := by rw [IntKind.wrap_u64]; omega
  have HPL := hide (putS_le (L.length : Int) 1)
  clear hin hok hlow hW hBq hz1 hz2
  go_enter Try.func39, Try.ntmps39
  go_wp2_with fail
  refine (HN0.out _ WA.out).mono ?_
  rintro e w1 ⟨rfl, hw, hb, -⟩
  have WR1 := hide hw
  have BL1 := hide (BA.out.trans hb)
  clear hw hb HN0 WA BA
  by_cases h8 : (8 : Int) < (L.length : Int)
  · have HT := hide (show textOk L = false by unfold textOk; rw [decide_eq_false (by omega)]; rfl)
    have HN1 := hide (wnumber_k w0.heap.size q lz b0 (by have := HZ2.out; omega) (L.length : Int) (by omega) (by omega) 0 w1 WR1.out HBQ.out)
    rw [fits0, show wrB b0 false = true by cases b0 <;> rfl] at HN1
    go_wp2_with fail
    refine HN1.out.mono ?_
    rintro e w2 ⟨rfl, hw, hb, -⟩
    have WR2 := hide hw
    have BL2 := hide (BL1.out.trans hb)
    have HL2 := hide (show (wrL lz (putS (L.length : Int) 0) b0 false).length ≤ l0.length + 400 by
      have := HZ2.out
      unfold wrL
      rw [if_pos (Or.inr rfl)]; omega)
    clear hw hb
    go_wp2_with fail
    go_end0
    exact ⟨rfl, _, by rw [HT.out, show (b0 || !false) = true by cases b0 <;> rfl]; exact WR2.out, fun _ h => absurd h (by rw [HT.out]; decide), HL2.out, BL2.out⟩
  · go_wp2_with fail
    go_loopw [21] (fun i W => ∃ (k : Nat) (l : List UInt8), k ≤ L.length ∧ i = .int .i64 k ∧ l.length ≤ l0.length + 8 + 16 * k ∧ WrAt W w0.heap.size q l (b0 || badC (L.take k)) ∧ ((b0 || badC (L.take k)) = false → l = l0 ++ (putS (L.length : Int) 1 ++ (L.take k).flatMap lnT)) ∧ Below w0.heap.size w0 W) (fun i _ => L.length - (intOf i).toNat)
    case atStart => exact ⟨0, _, by omega, rfl, by have := HZ2.out; omega, by rw [show (b0 || badC (L.take 0)) = b0 by cases b0 <;> rfl]; exact WR1.out, fun h => by rw [HZ1.out (by cases b0; rfl; exact absurd h (by simp))]; simp, BL1.out⟩
    case round =>
      obtain ⟨k, l, hk, rfl, hll, hw, hl, hb⟩ := hrel
      have WR := hide hw
      have BR := hide hb
      have HLL := hide hl
      clear hw hb hl WR1 BL1
      by_cases hlt : k < L.length
      · obtain ⟨b, off, rfl, hbl, c0, c1⟩ := (HIN.out.below BR.out) k hlt
        have HXO := hide (HOK.out _ (ln_mem L k hlt))
        have HBN := hide (show (b0 || badC (L.take (k + 1))) = ((b0 || badC (L.take k)) || !codeOk (L.getD k ln0)) by rw [badC_next L k hlt, Bool.or_assoc])
        have HTN := hide (lnTs_next L k hlt)
        have HLT := hide (lnT_len (L.getD k ln0))
        generalize (b0 || badC (L.take k)) = bd at *
        generalize L.getD k ln0 = x at *
        obtain ⟨xc, xn⟩ := x
        dsimp only at *
        go_upto_region 6 with (fail)
        have hal := (Below.refl wr.heap.size wr).alloc (Nat.le_refl _) (.cells #[.int .i64 xc, .int .i64 xn] 80)
        have EB := hide (heap_new wr (.cells #[.int .i64 xc, .int .i64 xn] 80))
        have WRa := hide (WR.out.below hal)
        have BLa := hide (BR.out.alloc BR.out.size (.cells #[.int .i64 xc, .int .i64 xn] 80))
        clear hal WR BR hbl c0 c1
        generalize wr.alloc (.cells #[.int .i64 xc, .int .i64 xn] 80) = w5 at *
        generalize wr.heap.size = eb at *
        have EB0 := hide (show w5.drew.heap[eb]? = some (.cells #[.int .i64 xc, .int .i64 xn] 80 (0, 0)) from EB.out)
        have WR0 := hide (show WrAt w5.drew w0.heap.size q l bd from WRa.out)
        have BL0 := hide BLa.out.drew
        clear EB WRa BLa
        have hu0 : 0 ≤ IntKind.u64.wrap xc := by rw [IntKind.wrap_u64]; omega
        have hu1 : IntKind.u64.wrap xc ≤ 18446744073709551615 := by rw [IntKind.wrap_u64]; omega
        have HN1 := hide (fun W hw => wnumber_k w0.heap.size q l bd (by omega) (IntKind.u64.wrap xc) hu0 hu1 2 W hw HBQ.out)
        rw [fits2 xc HXO.out.1] at HN1
        have hcd : decide (0 ≤ xc ∧ xc ≤ 65535) = codeOk ⟨xc, xn⟩ := rfl
        rw [hcd] at HN1
        generalize hok2 : codeOk ⟨xc, xn⟩ = ok at *
        have hl1 : (wrL l (putS (IntKind.u64.wrap xc) 2) bd ok).length ≤ l.length + 8 := by
          have := putS_le (IntKind.u64.wrap xc) 2
          unfold wrL
          split
          · omega
          · rw [List.length_append]; omega
        have HL1 := hide hl1
        have HN2 := hide (fun W hw => wsigned_k w0.heap.size q (wrL l (putS (IntKind.u64.wrap xc) 2) bd ok) (wrB bd ok) (by omega) xn HXO.out.2.1 HXO.out.2.2 W hw HBQ.out)
        rw [fits8] at HN2
        clear hu0 hu1 hcd hl1
        refine wp_region_held_drew (S := (fun W => W.heap[eb]? = some (.cells #[.int .i64 xc, .int .i64 xn] 80 (0, 0)))) (by kernel_rfl) (EB0.out) (fun hHeld => ?_)
        generalize w5.drew = v0 at *
        refine wpAnyH_take (i := 0) (oi := { dst := some 25, op := Op.move (Operand.tmp 1), type := 59, pos := "post.go:87", after := #[], guard := none }) (v := ?_) rfl (by kernel_rfl) (by kernel_rfl) (by kernel_rfl) (fun _ _ _ h => h) (Or.inl ⟨by kernel_rfl, ?_⟩) hHeld ?_
        rotate_left
        · (intro w hSw; (try dsimp only at hSw); have e0 := cell_of_block hSw 0; have e1 := cell_of_block hSw 1; go_simp); try with_reducible rfl
        try simp only [Act.put, List.setIfInBounds_toArray, List.set_cons_zero, List.set_cons_succ]
        refine wpAnyH_take (i := 1) (oi := { dst := some 26, op := Op.fieldAddr 80 (Operand.tmp 5) 0, type := 0, pos := "post.go:87", after := #[], guard := none }) (v := ?_) rfl (by kernel_rfl) (by kernel_rfl) (by kernel_rfl) (fun _ _ _ h => h) (Or.inl ⟨by kernel_rfl, ?_⟩) hHeld ?_
        rotate_left
        · (intro w hSw; (try dsimp only at hSw); have e0 := cell_of_block hSw 0; have e1 := cell_of_block hSw 1; go_simp); try with_reducible rfl
        try simp only [Act.put, List.setIfInBounds_toArray, List.set_cons_zero, List.set_cons_succ]
        refine wpAnyH_take (i := 2) (oi := { dst := some 27, op := Op.load 3 (Operand.tmp 26), type := 3, pos := "post.go:87", after := #[{ on := 1, ground := Ground.data }], guard := none }) (v := ?_) rfl (by kernel_rfl) (by kernel_rfl) (by kernel_rfl) (fun _ _ _ h => h) (Or.inl ⟨by kernel_rfl, ?_⟩) hHeld ?_
        rotate_left
        · (intro w hSw; (try dsimp only at hSw); have e0 := cell_of_block hSw 0; have e1 := cell_of_block hSw 1; go_simp); try with_reducible rfl
        try simp only [Act.put, List.setIfInBounds_toArray, List.set_cons_zero, List.set_cons_succ]
        refine wpAnyH_take (i := 3) (oi := { dst := some 28, op := Op.convert 3 90 (Operand.tmp 27), type := 90, pos := "post.go:87", after := #[{ on := 2, ground := Ground.data }], guard := none }) (v := ?_) rfl (by kernel_rfl) (by kernel_rfl) (by kernel_rfl) (fun _ _ _ h => h) (Or.inl ⟨by kernel_rfl, ?_⟩) hHeld ?_
        rotate_left
        · (intro w hSw; (try dsimp only at hSw); have e0 := cell_of_block hSw 0; have e1 := cell_of_block hSw 1; go_simp); try with_reducible rfl
        try simp only [Act.put, List.setIfInBounds_toArray, List.set_cons_zero, List.set_cons_succ]
        refine wpAnyH_take (i := 5) (oi := { dst := some 30, op := Op.fieldAddr 80 (Operand.tmp 5) 1, type := 0, pos := "post.go:87", after := #[], guard := none }) (v := ?_) rfl (by kernel_rfl) (by kernel_rfl) (by kernel_rfl) (fun _ _ _ h => h) (Or.inl ⟨by kernel_rfl, ?_⟩) hHeld ?_
        rotate_left
        · (intro w hSw; (try dsimp only at hSw); have e0 := cell_of_block hSw 0; have e1 := cell_of_block hSw 1; go_simp); try with_reducible rfl
        try simp only [Act.put, List.setIfInBounds_toArray, List.set_cons_zero, List.set_cons_succ]
        refine wpAnyH_take (i := 6) (oi := { dst := some 31, op := Op.load 31 (Operand.tmp 30), type := 31, pos := "post.go:87", after := #[{ on := 5, ground := Ground.data }], guard := none }) (v := ?_) rfl (by kernel_rfl) (by kernel_rfl) (by kernel_rfl) (fun _ _ _ h => h) (Or.inl ⟨by kernel_rfl, ?_⟩) hHeld ?_
        rotate_left
        · (intro w hSw; (try dsimp only at hSw); have e0 := cell_of_block hSw 0; have e1 := cell_of_block hSw 1; go_simp); try with_reducible rfl
        try simp only [Act.put, List.setIfInBounds_toArray, List.set_cons_zero, List.set_cons_succ]
        refine wpAnyH_ready (rs := [4]) (by kernel_rfl) (by simp) (AllReadyH.cons (o := { dst := some 29, op := Op.call { callee := Callee.value (Operand.func 37), args := #[Operand.tmp 25, Operand.tmp 28, Operand.const (Value.int IntKind.i64 2)], argTypes := #[59, 90, 3] }, type := 59, pos := "post.go:87", after := #[{ on := 0, ground := Ground.data }, { on := 3, ground := Ground.data }], guard := none }) rfl (fun K hK => ?_) AllReadyH.nil)
        have hOld := hide hHeld
        clear hHeld
        go_simp
        refine (HN1.out _ WR0.out).mono ?_
        rintro e v1 ⟨rfl, hw, hb, hkt⟩
        have WR1 := hide hw
        have BL1 := hide (BL0.out.trans hb)
        have EB1 := hide (hkt.cells EB0.out (by decide))
        clear hw hb hkt
        (try go_wp2_with fail)
        refine hK.out _ _ (EB1.out) (fun hHeld => ?_)
        clear hK K hOld
        try simp only [Act.put, List.setIfInBounds_toArray, List.set_cons_zero, List.set_cons_succ]
        refine wpAnyH_ready (rs := [7]) (by kernel_rfl) (by simp) (AllReadyH.cons (o := { dst := some 32, op := Op.call { callee := Callee.value (Operand.func 38), args := #[Operand.tmp 29, Operand.tmp 31], argTypes := #[59, 2] }, type := 59, pos := "post.go:87", after := #[{ on := 4, ground := Ground.data }, { on := 6, ground := Ground.data }, { on := 4, ground := Ground.chain }], guard := none }) rfl (fun K hK => ?_) AllReadyH.nil)
        have hOld := hide hHeld
        clear hHeld
        go_simp
        refine (HN2.out _ WR1.out).mono ?_
        rintro e v2 ⟨rfl, hw, hb, hkt⟩
        have WR2 := hide hw
        have BL2 := hide (BL1.out.trans hb)
        have EB2 := hide (hkt.cells EB1.out (by decide))
        clear hw hb hkt
        (try go_wp2_with fail)
        refine hK.out _ _ (EB2.out) (fun hHeld => ?_)
        clear hK K hOld
        try simp only [Act.put, List.setIfInBounds_toArray, List.set_cons_zero, List.set_cons_succ]
        refine wpAnyH_done (by kernel_rfl) ?_ _
        clear hHeld
        have HB2 := hide (show wrB (wrB bd ok) true = (bd || !ok) by cases bd <;> cases ok <;> rfl)
        have HL2 := hide (show (wrL (wrL l (putS (IntKind.u64.wrap xc) 2) bd ok) (putS (IntKind.u64.wrap xn) 8) (wrB bd ok) true).length ≤ l.length + 16 by
          have := putS_le (IntKind.u64.wrap xn) 8
          have := HL1.out
          generalize wrL l (putS (IntKind.u64.wrap xc) 2) bd ok = l1 at *
          unfold wrL
          split
          · omega
          · rw [List.length_append]; omega)
        have HV2 := hide (show (bd || !ok) = false → wrL (wrL l (putS (IntKind.u64.wrap xc) 2) bd ok) (putS (IntKind.u64.wrap xn) 8) (wrB bd ok) true = l ++ lnT ⟨xc, xn⟩ by
          intro h
          cases bd <;> cases ok <;> first | (exact absurd h (by decide)) | (simp [wrL, wrB, lnT]))
        go_wp2_with fail
        go_roundw
        case rel =>
          refine ⟨k + 1, _, by omega, by go_num, ?_, by rw [HBN.out, ← HB2.out]; exact WR2.out, fun h => ?_, BL2.out⟩
          · have := HL2.out; omega
          · rw [HBN.out] at h
            have hbd : bd = false := by cases bd; rfl; exact absurd h (by simp)
            rw [HV2.out h, HTN.out, HLL.out hbd, List.append_assoc, List.append_assoc]
        case measure => simp [intOf]; omega
      · obtain rfl : k = L.length := by omega
        rw [List.take_length] at WR HLL
        have HT := hide (show textOk L = !badC L by unfold textOk; rw [decide_eq_true (by omega)]; rfl)
        go_wp2_with fail
        go_end0
        exact ⟨rfl, l, by rw [HT.out, Bool.not_not]; exact WR.out, fun h0 h => HLL.out (by rw [HT.out] at h; rw [h0]; simpa using h), by omega, BR.out⟩
def NilIs (w : World) (e : Ending) (w' : World) : Prop := e = .returned (.tuple #[]) ∧ Below w.heap.size w w'
set_option maxRecDepth 100000 in
theorem pwrite_nil (L : List LnM) (hL : L.length ≤ 20) (hok : ∀ x ∈ L, LnOk x) (a : Option Addr) (cap : Nat) (w : World) (hin : LnIn w a L) :
    Calls Try.prog 39 #[.slice a L.length cap, .pointer none] w (NilIs w) := by
  have HIN := hide hin
  have HOK := hide hok
  have hlw : IntKind.u64.wrap (L.length : Int) = (L.length : Int) := by rw [IntKind.wrap_u64]; omega
  have HN0 := hide (fun W => wnumber_nil (L.length : Int) (by omega) (by omega) 1 W)
  have HN9 := hide (fun W => wnumber_nil (L.length : Int) (by omega) (by omega) 0 W)
  clear hin hok
  go_enter Try.func39, Try.ntmps39
  go_wp2_with fail
  refine (HN0.out _).mono ?_
  rintro e w1 ⟨rfl, hb⟩
  have BL1 := hide hb
  clear hb HN0
  by_cases h8 : (8 : Int) < (L.length : Int)
  · go_wp2_with fail
    refine (HN9.out _).mono ?_
    rintro e w2 ⟨rfl, hb⟩
    have BL2 := hide (BL1.out.trans (hb.mono BL1.out.size))
    clear hb
    go_wp2_with fail
    go_end0
    exact ⟨rfl, BL2.out⟩
  · clear HN9
    go_wp2_with fail
    go_loopw [21] (fun i W => ∃ k : Nat, k ≤ L.length ∧ i = .int .i64 k ∧ Below w.heap.size w W) (fun i _ => L.length - (intOf i).toNat)
    case atStart => exact ⟨0, by omega, rfl, BL1.out⟩
    case round =>
      obtain ⟨k, hk, rfl, hb⟩ := hrel
      have BR := hide hb
      clear hb BL1
      by_cases hlt : k < L.length
      · obtain ⟨b, off, rfl, hbl, c0, c1⟩ := (HIN.out.below BR.out) k hlt
        have HXO := hide (HOK.out _ (ln_mem L k hlt))
        generalize L.getD k ln0 = x at *
        obtain ⟨xc, xn⟩ := x
        dsimp only at *
        go_upto_region 6 with (fail)
        have EB := hide (heap_new wr (.cells #[.int .i64 xc, .int .i64 xn] 80))
        have BLa := hide (BR.out.alloc BR.out.size (.cells #[.int .i64 xc, .int .i64 xn] 80))
        clear BR hbl c0 c1
        generalize wr.alloc (.cells #[.int .i64 xc, .int .i64 xn] 80) = w5 at *
        generalize wr.heap.size = eb at *
        have EB0 := hide (show w5.drew.heap[eb]? = some (.cells #[.int .i64 xc, .int .i64 xn] 80 (0, 0)) from EB.out)
        have BL0 := hide BLa.out.drew
        clear EB BLa
        have hu0 : 0 ≤ IntKind.u64.wrap xc := by rw [IntKind.wrap_u64]; omega
        have hu1 : IntKind.u64.wrap xc ≤ 18446744073709551615 := by rw [IntKind.wrap_u64]; omega
        have HN1 := hide (fun W => wnumber_nil (IntKind.u64.wrap xc) hu0 hu1 2 W)
        have HN2 := hide (fun W => wsigned_nil xn W)
        clear hu0 hu1
        refine wp_region_held_drew (S := (fun W => W.heap[eb]? = some (.cells #[.int .i64 xc, .int .i64 xn] 80 (0, 0)))) (by kernel_rfl) (EB0.out) (fun hHeld => ?_)
        generalize w5.drew = v0 at *
        refine wpAnyH_take (i := 0) (oi := { dst := some 25, op := Op.move (Operand.tmp 1), type := 59, pos := "post.go:87", after := #[], guard := none }) (v := ?_) rfl (by kernel_rfl) (by kernel_rfl) (by kernel_rfl) (fun _ _ _ h => h) (Or.inl ⟨by kernel_rfl, ?_⟩) hHeld ?_
        rotate_left
        · (intro w hSw; (try dsimp only at hSw); have e0 := cell_of_block hSw 0; have e1 := cell_of_block hSw 1; go_simp); try with_reducible rfl
        try simp only [Act.put, List.setIfInBounds_toArray, List.set_cons_zero, List.set_cons_succ]
        refine wpAnyH_take (i := 1) (oi := { dst := some 26, op := Op.fieldAddr 80 (Operand.tmp 5) 0, type := 0, pos := "post.go:87", after := #[], guard := none }) (v := ?_) rfl (by kernel_rfl) (by kernel_rfl) (by kernel_rfl) (fun _ _ _ h => h) (Or.inl ⟨by kernel_rfl, ?_⟩) hHeld ?_
        rotate_left
        · (intro w hSw; (try dsimp only at hSw); have e0 := cell_of_block hSw 0; have e1 := cell_of_block hSw 1; go_simp); try with_reducible rfl
        try simp only [Act.put, List.setIfInBounds_toArray, List.set_cons_zero, List.set_cons_succ]
        refine wpAnyH_take (i := 2) (oi := { dst := some 27, op := Op.load 3 (Operand.tmp 26), type := 3, pos := "post.go:87", after := #[{ on := 1, ground := Ground.data }], guard := none }) (v := ?_) rfl (by kernel_rfl) (by kernel_rfl) (by kernel_rfl) (fun _ _ _ h => h) (Or.inl ⟨by kernel_rfl, ?_⟩) hHeld ?_
        rotate_left
        · (intro w hSw; (try dsimp only at hSw); have e0 := cell_of_block hSw 0; have e1 := cell_of_block hSw 1; go_simp); try with_reducible rfl
        try simp only [Act.put, List.setIfInBounds_toArray, List.set_cons_zero, List.set_cons_succ]
        refine wpAnyH_take (i := 3) (oi := { dst := some 28, op := Op.convert 3 90 (Operand.tmp 27), type := 90, pos := "post.go:87", after := #[{ on := 2, ground := Ground.data }], guard := none }) (v := ?_) rfl (by kernel_rfl) (by kernel_rfl) (by kernel_rfl) (fun _ _ _ h => h) (Or.inl ⟨by kernel_rfl, ?_⟩) hHeld ?_
        rotate_left
        · (intro w hSw; (try dsimp only at hSw); have e0 := cell_of_block hSw 0; have e1 := cell_of_block hSw 1; go_simp); try with_reducible rfl
        try simp only [Act.put, List.setIfInBounds_toArray, List.set_cons_zero, List.set_cons_succ]
        refine wpAnyH_take (i := 5) (oi := { dst := some 30, op := Op.fieldAddr 80 (Operand.tmp 5) 1, type := 0, pos := "post.go:87", after := #[], guard := none }) (v := ?_) rfl (by kernel_rfl) (by kernel_rfl) (by kernel_rfl) (fun _ _ _ h => h) (Or.inl ⟨by kernel_rfl, ?_⟩) hHeld ?_
        rotate_left
        · (intro w hSw; (try dsimp only at hSw); have e0 := cell_of_block hSw 0; have e1 := cell_of_block hSw 1; go_simp); try with_reducible rfl
        try simp only [Act.put, List.setIfInBounds_toArray, List.set_cons_zero, List.set_cons_succ]
        refine wpAnyH_take (i := 6) (oi := { dst := some 31, op := Op.load 31 (Operand.tmp 30), type := 31, pos := "post.go:87", after := #[{ on := 5, ground := Ground.data }], guard := none }) (v := ?_) rfl (by kernel_rfl) (by kernel_rfl) (by kernel_rfl) (fun _ _ _ h => h) (Or.inl ⟨by kernel_rfl, ?_⟩) hHeld ?_
        rotate_left
        · (intro w hSw; (try dsimp only at hSw); have e0 := cell_of_block hSw 0; have e1 := cell_of_block hSw 1; go_simp); try with_reducible rfl
        try simp only [Act.put, List.setIfInBounds_toArray, List.set_cons_zero, List.set_cons_succ]
        refine wpAnyH_ready (rs := [4]) (by kernel_rfl) (by simp) (AllReadyH.cons (o := { dst := some 29, op := Op.call { callee := Callee.value (Operand.func 37), args := #[Operand.tmp 25, Operand.tmp 28, Operand.const (Value.int IntKind.i64 2)], argTypes := #[59, 90, 3] }, type := 59, pos := "post.go:87", after := #[{ on := 0, ground := Ground.data }, { on := 3, ground := Ground.data }], guard := none }) rfl (fun K hK => ?_) AllReadyH.nil)
        have hOld := hide hHeld
        clear hHeld
        go_simp
        refine (HN1.out _).mono ?_
        rintro e v1 ⟨rfl, hb⟩
        have BL1 := hide (BL0.out.trans (hb.mono BL0.out.size))
        have EB1 := hide ((hb.block _ (heap_lt EB0.out)).trans EB0.out)
        clear hb
        (try go_wp2_with fail)
        refine hK.out _ _ (EB1.out) (fun hHeld => ?_)
        clear hK K hOld
        try simp only [Act.put, List.setIfInBounds_toArray, List.set_cons_zero, List.set_cons_succ]
        refine wpAnyH_ready (rs := [7]) (by kernel_rfl) (by simp) (AllReadyH.cons (o := { dst := some 32, op := Op.call { callee := Callee.value (Operand.func 38), args := #[Operand.tmp 29, Operand.tmp 31], argTypes := #[59, 2] }, type := 59, pos := "post.go:87", after := #[{ on := 4, ground := Ground.data }, { on := 6, ground := Ground.data }, { on := 4, ground := Ground.chain }], guard := none }) rfl (fun K hK => ?_) AllReadyH.nil)
        have hOld := hide hHeld
        clear hHeld
        go_simp
        refine (HN2.out _).mono ?_
        rintro e v2 ⟨rfl, hb⟩
        have BL2 := hide (BL1.out.trans (hb.mono BL1.out.size))
        have EB2 := hide ((hb.block _ (heap_lt EB1.out)).trans EB1.out)
        clear hb
        (try go_wp2_with fail)
        refine hK.out _ _ (EB2.out) (fun hHeld => ?_)
        clear hK K hOld
        try simp only [Act.put, List.setIfInBounds_toArray, List.set_cons_zero, List.set_cons_succ]
        refine wpAnyH_done (by kernel_rfl) ?_ _
        clear hHeld
        go_wp2_with fail
        go_roundw
        case rel => exact ⟨k + 1, by omega, by go_num, BL2.out⟩
        case measure => simp [intOf]; omega
      · obtain rfl : k = L.length := by omega
        go_wp2_with fail
        go_end0
        exact ⟨rfl, BR.out⟩
/-- the document's fields -/
def lnFd (x : LnM) : List Fld := [⟨0, 2, IntKind.u64.wrap x.c, ⟨#[]⟩⟩, ⟨1, 0, IntKind.u64.wrap x.n, ⟨#[]⟩⟩]
def poF (L : List LnM) : List Fld := ⟨0, 1, (L.length : Int), ⟨#[]⟩⟩ :: L.flatMap lnFd
theorem lnFd_len : ∀ L : List LnM, (L.flatMap lnFd).length = 2 * L.length
  | [] => rfl
  | x :: L => by rw [List.flatMap_cons, List.length_append, lnFd_len L, List.length_cons]; simp [lnFd]; omega
theorem wu64 (n : Int) : 0 ≤ IntKind.u64.wrap n ∧ IntKind.u64.wrap n ≤ 18446744073709551615 := by rw [IntKind.wrap_u64]; omega
theorem fold_lns : ∀ (L : List LnM) (l : List UInt8), (∀ x ∈ L, LnOk x ∧ codeOk x = true) → (L.flatMap lnFd).foldl (fun z x => wrF z.1 z.2 x) (l, false) = (l ++ L.flatMap lnT, false)
  | [], l, _ => by simp
  | x :: L, l, h => by
    obtain ⟨h1, h2⟩ := h x (by simp)
    have hf := fits2 x.c h1.1
    rw [show decide (0 ≤ x.c ∧ x.c ≤ 65535) = codeOk x from rfl, h2] at hf
    have hn := fits8 x.n
    have ih := fold_lns L (l ++ lnT x) (fun y hy => h y (by simp [hy]))
    rw [List.flatMap_cons, List.foldl_append]
    have e : (lnFd x).foldl (fun z x => wrF z.1 z.2 x) (l, false) = (l ++ lnT x, false) := by
      simp only [lnFd, List.foldl_cons, List.foldl_nil, wrF]
      simp only [if_true, show ¬ ((1 : Int) = 0) by decide, if_false, hf, hn]
      simp [lnT, wrL, wrB, List.append_assoc]
    rw [e, ih]
    simp [List.append_assoc]
theorem wrFs_po (L : List LnM) (hL : L.length ≤ 255) (h : ∀ x ∈ L, LnOk x ∧ codeOk x = true) : wrFs (poF L) = (poT L, false) := by
  have hf := fitsP L.length hL
  unfold wrFs poF poT
  have e : wrF [] false ⟨0, 1, (L.length : Int), ⟨#[]⟩⟩ = (putS (L.length : Int) 1, false) := by
    simp only [wrF, if_true, hf]
    rfl
  rw [List.foldl_cons]
  show List.foldl _ (wrF [] false ⟨0, 1, (L.length : Int), ⟨#[]⟩⟩) _ = _
  rw [e, fold_lns L _ h]
theorem poF_good (L : List LnM) (hL : L.length ≤ 255) : ∀ f ∈ poF L, FldGood f := by
  intro f hf
  rcases List.mem_cons.1 hf with rfl | hf
  · exact ⟨by dsimp only; omega, by dsimp only; omega, by dsimp only; omega, by show (0 : Nat) ≤ 300; omega⟩
  · obtain ⟨x, hx, hf⟩ := List.mem_flatMap.1 hf
    simp only [lnFd, List.mem_cons, List.not_mem_nil, or_false] at hf
    rcases hf with rfl | rfl
    · exact ⟨by dsimp only; omega, by dsimp only; omega, wu64 _, by show (0 : Nat) ≤ 300; omega⟩
    · exact ⟨by dsimp only; omega, by dsimp only; omega, wu64 _, by show (0 : Nat) ≤ 300; omega⟩
theorem fc_one (x : Fld) : ∀ u ∈ fc x, u.oneCell' = true := by
  intro u hu
  simp only [fc, List.mem_cons, List.not_mem_nil, or_false] at hu
  rcases hu with rfl | rfl | rfl | rfl <;> rfl
theorem lnFd_next (L : List LnM) (k : Nat) (h : k < L.length) : (L.take (k + 1)).flatMap lnFd = (L.take k).flatMap lnFd ++ lnFd (L.getD k ln0) := by
  rw [ln_next L k h, List.flatMap_append]; simp
theorem codes_all (L : List LnM) (h : ∀ j, j < L.length → codeOk (L.getD j ln0) = true) : badC L = false ∧ ∀ x ∈ L, codeOk x = true := by
  have h1 : ∀ x ∈ L, codeOk x = true := fun x hx => by
    obtain ⟨i, hi, rfl⟩ := List.getElem_of_mem hx
    have := h i hi
    simpa [List.getD, List.getElem?_eq_getElem hi] using this
  refine ⟨?_, h1⟩
  unfold badC
  rw [List.any_eq_false]
  intro x hx
  simp [h1 x hx]
def txtS (L : List LnM) : ByteArray := if textOk L = true then bs (poT L) else ⟨#[]⟩
set_option maxRecDepth 100000 in
set_option maxHeartbeats 1000000 in
theorem rptext (L : List LnM) (hL : L.length ≤ 20) (hok : ∀ x ∈ L, LnOk x) (a : Option Addr) (cap : Nat) (w : World) (hin : LnIn w a L) :
    Calls Try.prog 30 #[.slice a L.length cap] w fun e w' => e = .returned (.tuple #[.string (txtS L), .bool (textOk L)]) ∧ Below w.heap.size w w' := by
  obtain ⟨i0, hi, hz0, hz1, hz2⟩ := info_parts (show (Try.prog.info? 92).map (fun i => (i.zero, i.size, i.bytes)) = some (some (.agg #[.int .i64 0, .int .i64 0, .int .u64 0, .string ⟨#[]⟩]), 4, 40) by kernel_rfl)
  have HI := hide hi
  have HZ0 := hide hz0
  have HZ1 := hide hz1
  have HZ2 := hide hz2
  have HIN := hide hin
  have HOK := hide hok
  have hkl : (poF L).length = 1 + 2 * L.length := by rw [poF, List.length_cons, lnFd_len]; omega
  have HKL := hide hkl
  have HRW := hide (fun a cap W hF => refWrite_any (poF L) (by omega) (poF_good L (by omega)) a cap W hF)
  have hlw : IntKind.u64.wrap (L.length : Int) = (L.length : Int) := by rw [IntKind.wrap_u64]; omega
  clear hi hz0 hz1 hz2 hok hkl hin
  go_enter Try.func30, Try.ntmps30
  by_cases h8 : (8 : Int) < (L.length : Int)
  · have HT := hide (show textOk L = false by unfold textOk; rw [decide_eq_false (by omega)]; rfl)
    have HS := hide (show txtS L = ⟨#[]⟩ by unfold txtS; rw [HT.out]; rfl)
    go_wp2_with fail
    go_ret2
    exact ⟨by rw [HT.out, HS.out]; rfl, Below.refl _ _⟩
  · have OW0 := hide (show (w.alloc (.cells #[.int .i64 0, .int .i64 1, .int .u64 (L.length : Int), .string ⟨#[]⟩] 92)).ownsRow w.heap.size 92 4 (.slice (some ⟨w.heap.size, 0, none⟩) 1 1) 1 ([Fld.mk 0 1 (L.length : Int) ⟨#[]⟩].flatMap fc) from ⟨rfl, .inr ⟨w.heap.size, 1, _, rfl, Nat.le_refl _, heap_new w _, Nat.le_refl _, by unfold maxLen; omega, rfl, rfl⟩⟩)
    have BL0 := hide ((Below.refl w.heap.size w).alloc (Nat.le_refl _) (.cells #[.int .i64 0, .int .i64 1, .int .u64 (L.length : Int), .string ⟨#[]⟩] 92))
    go_wp2_with fail
    go_loopw [4, 5] (fun f i W => ∃ (k : Nat) (af : Option Addr) (cf : Nat), k ≤ L.length ∧ i = .int .i64 k ∧ f = .slice af (1 + 2 * k) cf ∧ (∀ j, j < k → codeOk (L.getD j ln0) = true) ∧ W.ownsRow w.heap.size 92 4 (.slice af (1 + 2 * k) cf) (1 + 2 * k) ((⟨0, 1, (L.length : Int), ⟨#[]⟩⟩ :: (L.take k).flatMap lnFd).flatMap fc) ∧ Below w.heap.size w W) (fun _ i _ => L.length - (intOf i).toNat)
    case atStart => exact ⟨0, _, _, by omega, rfl, rfl, fun j hj => absurd hj (Nat.not_lt_zero j), OW0.out, BL0.out⟩
    case round =>
      obtain ⟨k, af, cf, hk, rfl, rfl, hco, h1, hB⟩ := hrel
      have OWF := hide h1
      have BLF := hide hB
      have HCO := hide hco
      clear h1 hB hco OW0 BL0
      by_cases hlt : k < L.length
      · obtain ⟨b, off, ha, hbl, c0, c1⟩ := HIN.out k hlt
        have HBL := hide hbl
        subst ha
        have HN := hide (lnFd_next L k hlt)
        have HXO := hide (HOK.out _ (ln_mem L k hlt))
        have HBC := hide (fun (h : codeOk (L.getD k ln0) = false) => show textOk L = false by
          unfold textOk badC
          have : (L.any fun x => !codeOk x) = true := List.any_eq_true.2 ⟨_, ln_mem L k hlt, by simpa using h⟩
          rw [this]; simp)
        have HCX := hide (fun (h : codeOk (L.getD k ln0) = true) => show ∀ j, j < k + 1 → codeOk (L.getD j ln0) = true from fun j hj => by
          by_cases e : j = k
          · subst e; exact h
          · exact HCO.out j (by omega))
        generalize L.getD k ln0 = x at *
        obtain ⟨xc, xn⟩ := x
        dsimp only at *
        have C0 := hide c0
        have C1 := hide c1
        clear c0 c1 hbl
        have d0 := cell_keep' BLF.out HBL.out (o := off + k * 2)
        rw [C0.out] at d0
        by_cases hneg : xc < 0
        · have HT := hide (HBC.out (decide_eq_false (by dsimp only; omega)))
          have HS := hide (show txtS L = ⟨#[]⟩ by unfold txtS; rw [HT.out]; rfl)
          go_wp2_with fail
          go_ret2
          exact ⟨by rw [HT.out, HS.out]; rfl, BLF.out⟩
        by_cases hbig : 65535 < xc
        · have HT := hide (HBC.out (decide_eq_false (by dsimp only; omega)))
          have HS := hide (show txtS L = ⟨#[]⟩ by unfold txtS; rw [HT.out]; rfl)
          go_wp2_with fail
          go_ret2
          exact ⟨by rw [HT.out, HS.out]; rfl, BLF.out⟩
        have HCY := hide (HCX.out (decide_eq_true (by dsimp only; omega)))
        clear HBC HCX
        have huc : IntKind.u64.wrap xc = xc := by rw [IntKind.wrap_u64]; omega
        have HFD := hide (show lnFd ⟨xc, xn⟩ = [⟨0, 2, xc, ⟨#[]⟩⟩, ⟨1, 0, IntKind.u64.wrap xn, ⟨#[]⟩⟩] by unfold lnFd; dsimp only; rw [huc])
        generalize hm : ((⟨0, 1, (L.length : Int), ⟨#[]⟩⟩ :: (L.take k).flatMap lnFd) : List Fld) = m at *
        have HM := hide hm
        obtain ⟨n, hn⟩ : ∃ n, 1 + 2 * k = n := ⟨_, rfl⟩
        have HNN := hide hn
        rw [hn] at OWF
        simp only [hn]
        have hnb : n ≤ 193 := by omega
        clear hm hn
        obtain ⟨un, hun⟩ : ∃ un, IntKind.u64.wrap xn = un := ⟨_, rfl⟩
        rw [hun] at HFD
        have hal := (Below.refl wr.heap.size wr).alloc (Nat.le_refl _) (.cells #[.int .i64 0, .int .i64 2, .int .u64 xc, .string ⟨#[]⟩] 92)
        have HA := hide (owns_below OWF.out hal)
        have HBA := hide (BLF.out.alloc BLF.out.size (.cells #[.int .i64 0, .int .i64 2, .int .u64 xc, .string ⟨#[]⟩] 92))
        have hw5 : w.heap.size ≤ (wr.alloc (.cells #[.int .i64 0, .int .i64 2, .int .u64 xc, .string ⟨#[]⟩] 92)).heap.size := HBA.out.size
        have HNEW := hide (heap_new wr (.cells #[.int .i64 0, .int .i64 2, .int .u64 xc, .string ⟨#[]⟩] 92))
        clear hal
        go_upto_region 10 with (at_builtin; refine wpList_append_own2 _ rfl _ _ 93 rfl w.heap.size 92 i0 (.agg #[.int .i64 0, .int .i64 0, .int .u64 0, .string ⟨#[]⟩]) 4 40 Try.underlying93 HI.out HZ0.out HZ1.out HZ2.out rfl (by decide) (.slice af n cf) n (m.flatMap fc) rfl HA.out ⟨wr.heap.size, 0, none⟩ 1 1 (by decide) (fc ⟨0, 2, xc, ⟨#[]⟩⟩) rfl rfl (cells_new HNEW.out) (fc_one _) (by unfold maxLen; omega) (by omega) hw5 ?_; intro g1 c1 u1 ho hgr hnil; have OW1 := hide ho; have BL1 := hide (HBA.out.grown hgr HBA.out.size (fun jj h => (HA.out.lt jj h).1)); clear ho hgr hnil)
        clear d0 hw5 HNEW HA HBA OWF BLF
        have d1 := cell_keep' BL1.out HBL.out (o := off + k * 2 + 1)
        rw [C1.out] at d1
        have OX1 := hide (show u1.ownsRow w.heap.size 92 4 (.slice (some ⟨g1, 0, none⟩) (n + 1) c1) (n + 1) ((m ++ [Fld.mk 0 2 xc ⟨#[]⟩]).flatMap fc) by rw [List.flatMap_append]; exact OW1.out)
        have hal := (Below.refl u1.heap.size u1).alloc (Nat.le_refl _) (.cells #[.int .i64 1, .int .i64 0, .int .u64 un, .string ⟨#[]⟩] 92)
        have HA := hide (owns_below OX1.out hal)
        have HBA := hide (BL1.out.alloc BL1.out.size (.cells #[.int .i64 1, .int .i64 0, .int .u64 un, .string ⟨#[]⟩] 92))
        have hw5 : w.heap.size ≤ (u1.alloc (.cells #[.int .i64 1, .int .i64 0, .int .u64 un, .string ⟨#[]⟩] 92)).heap.size := HBA.out.size
        have HNEW := hide (heap_new u1 (.cells #[.int .i64 1, .int .i64 0, .int .u64 un, .string ⟨#[]⟩] 92))
        clear hal
        go_wp2_with (at_builtin; refine wpList_append_own2 _ rfl _ _ 93 rfl w.heap.size 92 i0 (.agg #[.int .i64 0, .int .i64 0, .int .u64 0, .string ⟨#[]⟩]) 4 40 Try.underlying93 HI.out HZ0.out HZ1.out HZ2.out rfl (by decide) (.slice (some ⟨g1, 0, none⟩) (n + 1) c1) (n + 1) ((m ++ [Fld.mk 0 2 xc ⟨#[]⟩]).flatMap fc) rfl HA.out ⟨u1.heap.size, 0, none⟩ 1 1 (by decide) (fc ⟨1, 0, un, ⟨#[]⟩⟩) rfl rfl (cells_new HNEW.out) (fc_one _) (by unfold maxLen; omega) (by omega) hw5 ?_; intro g2 c2 u2 ho hgr hnil; have OW2 := hide ho; have BL2 := hide (HBA.out.grown hgr HBA.out.size (fun jj h => (HA.out.lt jj h).1)); clear ho hgr hnil)
        go_roundw
        case rel =>
          have hnn := HNN.out
          have e3 : 1 + 2 * (k + 1) = n + 1 + 1 := by omega
          refine ⟨k + 1, _, _, by omega, by go_num, by rw [e3], HCY.out, ?_, BL2.out⟩
          rw [e3, HN.out, HFD.out]
          have ho := OW2.out
          rw [← HM.out] at ho
          simpa [fc, List.append_assoc] using ho
        case measure => simp [intOf]; omega
      · obtain rfl : k = L.length := by omega
        have hca := codes_all L HCO.out
        have HT := hide (show textOk L = true by unfold textOk; rw [decide_eq_true (by omega), hca.1]; rfl)
        have HS := hide (show txtS L = bs (poT L) by unfold txtS; rw [if_pos HT.out])
        have hfs := wrFs_po L (by omega) (fun x hx => ⟨HOK.out x hx, hca.2 x hx⟩)
        have HRS := hide (show refS (poF L) = bs (poT L) by rw [refS, hfs]; rfl)
        have HRB := hide (show (wrFs (poF L)).2 = false by rw [hfs])
        have ho := OWF.out
        rw [List.take_length, show ((⟨0, 1, (L.length : Int), ⟨#[]⟩⟩ :: L.flatMap lnFd) : List Fld) = poF L from rfl, ← HKL.out] at ho
        have HF := hide (show FldsAt wr wr.heap.size af (poF L) from fun i hi => by
          obtain ⟨g, h1, _, h3, h4⟩ := owns_rows fc fc_length fld0 ho i hi
          exact ⟨g, h1, h3, h4⟩)
        have hkl := HKL.out
        have HRF := hide (HRW.out af cf wr HF.out)
        rw [hkl, HRS.out, HRB.out] at HRF
        clear ho hkl hca hfs
        go_wp2_with fail
        refine HRF.out.mono ?_
        rintro e w9 ⟨rfl, hb⟩
        have B9 := hide (below_trans BLF.out hb)
        clear hb
        go_wp2_with fail
        go_ret2
        exact ⟨by rw [HT.out, HS.out]; rfl, B9.out⟩
end Go.Proofs.Ytbnbfnlfgmlcgaa
