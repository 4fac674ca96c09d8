/-
  Layer 2: PolyRest.
-/
import Derived.Test.YtmhppjgclaahnaaLaw2
namespace Go.Proofs.Ytmhppjgclaahnaa
set_option linter.unusedSimpArgs false
set_option linter.unusedVariables false
open Go.RowKit Go.WideShapes Go.ChangeShapes Go.ChangeAt

theorem word_append (a b : List Bool) : ∀ k : Nat, word k (a ++ b) = word k a ^^^ word (k + a.length) b := by
  induction a with
  | nil => intro k; simp [word]
  | cons x a ih => intro k; simp only [List.cons_append, word, List.length_cons]; rw [ih, BitVec.xor_assoc, show k + 1 + a.length = k + (a.length + 1) by omega]
theorem word_shift (l : List Bool) : ∀ k j : Nat, word (k + j) l = word k l >>> j := by
  induction l with
  | nil => intro k j; simp [word]
  | cons x l ih =>
    intro k j
    simp only [word]
    rw [show k + j + 1 = (k + 1) + j by omega, ih, BitVec.ushiftRight_xor_distrib, BitVec.shiftRight_add]
/-- the four bytes of a state, most significant first -/
def bytes4 (v : St) : List UInt8 := [⟨(v >>> 24).truncate 8⟩, ⟨(v >>> 16).truncate 8⟩, ⟨(v >>> 8).truncate 8⟩, ⟨v.truncate 8⟩]
theorem word_bytes4 (v : St) : word 0 (bitsL (bytes4 v)) = v := by
  have e : bitsL (bytes4 v) = bitsU ⟨(v >>> 24).truncate 8⟩ ++ (bitsU ⟨(v >>> 16).truncate 8⟩ ++ (bitsU ⟨(v >>> 8).truncate 8⟩ ++ bitsU ⟨v.truncate 8⟩)) := by simp [bitsL, bytes4]
  rw [e, word_append, word_append, word_append]
  simp only [bitsU_length]
  rw [show word (0 + 8) (bitsU ⟨(v >>> 16).truncate 8⟩) = word 0 (bitsU ⟨(v >>> 16).truncate 8⟩) >>> 8 from word_shift _ 0 8,
    show word (0 + 8 + 8) (bitsU ⟨(v >>> 8).truncate 8⟩) = word 0 (bitsU ⟨(v >>> 8).truncate 8⟩) >>> 16 from word_shift _ 0 16,
    show word (0 + 8 + 8 + 8) (bitsU ⟨v.truncate 8⟩) = word 0 (bitsU ⟨v.truncate 8⟩) >>> 24 from word_shift _ 0 24]
  simp only [word_bitsU]
  apply BitVec.eq_of_getLsbD_eq
  intro i hi
  simp only [BitVec.getLsbD_xor, BitVec.getLsbD_shiftLeft, BitVec.getLsbD_ushiftRight, BitVec.truncate_eq_setWidth, BitVec.zeroExtend_eq_setWidth, BitVec.getLsbD_setWidth]
  by_cases h1 : i < 8
  · have a1 : i < 24 := by omega
    have a2 : 8 + i < 24 := by omega
    have a3 : 16 + i < 24 := by omega
    have a4 : ¬ 24 + i < 24 := by omega
    have a5 : 24 + i < 32 := by omega
    have a6 : 24 + i - 24 = i := by omega
    have a7 : i < 32 := hi
    simp [a1, a2, a3, a4, a5, a6, a7, h1]
  · by_cases h2 : i < 16
    · have a1 : i < 24 := by omega
      have a2 : 8 + i < 24 := by omega
      have a3 : ¬ 16 + i < 24 := by omega
      have a4 : ¬ 24 + i < 32 := by omega
      have a5 : 16 + i < 32 := by omega
      have a6 : 16 + i - 24 = i - 8 := by omega
      have a7 : i - 8 < 32 := by omega
      have a8 : i - 8 < 8 := by omega
      have a9 : 8 + (i - 8) = i := by omega
      simp [a1, a2, a3, a4, a5, a6, a7, a8, a9]
    · by_cases h3 : i < 24
      · have a2 : ¬ 8 + i < 24 := by omega
        have a3 : ¬ 16 + i < 32 := by omega
        have a4 : ¬ 24 + i < 32 := by omega
        have a5 : 8 + i < 32 := by omega
        have a6 : 8 + i - 24 = i - 16 := by omega
        have a7 : i - 16 < 32 := by omega
        have a8 : i - 16 < 8 := by omega
        have a9 : 16 + (i - 16) = i := by omega
        simp [h3, a2, a3, a4, a5, a6, a7, a8, a9]
      · have a2 : ¬ 8 + i < 32 := by omega
        have a3 : ¬ 16 + i < 32 := by omega
        have a4 : ¬ 24 + i < 32 := by omega
        have a7 : i - 24 < 32 := by omega
        have a8 : i - 24 < 8 := by omega
        have a9 : 24 + (i - 24) = i := by omega
        simp [h3, hi, a2, a3, a4, a7, a8, a9]
theorem more_bytes4 (s v : St) : moreS s (bytes4 v) = Tn 32 (s ^^^ v) := by
  unfold moreS
  have hl : (bitsL (bytes4 v)).length = 32 := by rw [bitsL_length]; rfl
  rw [steps_word _ _ (by omega), hl, word_bytes4]
theorem more_rest (s : St) : moreS s (bytes4 (~~~ s)) = Tn 32 0xFFFFFFFF#32 := by
  rw [more_bytes4]
  congr 1
  apply BitVec.eq_of_getLsbD_eq
  intro i hi
  have h : (0xFFFFFFFF#32).getLsbD i = true := by
    have h' : ∀ j : Fin 32, (0xFFFFFFFF#32).getLsbD j.val = true := by decide
    exact h' ⟨i, hi⟩
  rw [h, BitVec.getLsbD_xor, BitVec.getLsbD_not]
  simp [hi]
/-- the rest behind every text and its check -/
def restN : Nat := (Tn 32 0xFFFFFFFF#32).toNat
def b4 (c : Nat) : List UInt8 := [UInt8.ofNat (c / 16777216), UInt8.ofNat (c / 65536 % 256), UInt8.ofNat (c / 256 % 256), UInt8.ofNat (c % 256)]
theorem u8_eq {a : UInt8} {n : Nat} (h : a.toNat = n) : a = UInt8.ofNat n := by rw [← h]; simp
theorem b4_of (v : St) : bytes4 v = b4 v.toNat := by
  have hv := v.isLt
  unfold bytes4 b4
  have h1 : (⟨(v >>> 24).truncate 8⟩ : UInt8) = UInt8.ofNat (v.toNat / 16777216) := u8_eq (by
    show ((v >>> 24).truncate 8).toNat = _
    rw [BitVec.truncate_eq_setWidth, BitVec.toNat_setWidth, BitVec.toNat_ushiftRight, Nat.shiftRight_eq_div_pow]
    exact Nat.mod_eq_of_lt (by omega))
  have h2 : (⟨(v >>> 16).truncate 8⟩ : UInt8) = UInt8.ofNat (v.toNat / 65536 % 256) := u8_eq (by
    show ((v >>> 16).truncate 8).toNat = _
    rw [BitVec.truncate_eq_setWidth, BitVec.toNat_setWidth, BitVec.toNat_ushiftRight, Nat.shiftRight_eq_div_pow])
  have h3 : (⟨(v >>> 8).truncate 8⟩ : UInt8) = UInt8.ofNat (v.toNat / 256 % 256) := u8_eq (by
    show ((v >>> 8).truncate 8).toNat = _
    rw [BitVec.truncate_eq_setWidth, BitVec.toNat_setWidth, BitVec.toNat_ushiftRight, Nat.shiftRight_eq_div_pow])
  have h4 : (⟨v.truncate 8⟩ : UInt8) = UInt8.ofNat (v.toNat % 256) := u8_eq (by
    show (v.truncate 8).toNat = _
    rw [BitVec.truncate_eq_setWidth, BitVec.toNat_setWidth])
  rw [h1, h2, h3, h4]
theorem rest_eq (l : List UInt8) : mN (moreS firstS l) (b4 (cN l)) = restN := by
  rw [mN_def]
  have h : cN l = (~~~ (moreS firstS l)).toNat := by
    unfold cN
    rw [mN_def, BitVec.toNat_not]
  rw [h, ← b4_of, more_rest]
  rfl
theorem b4_length (c : Nat) : (b4 c).length = 4 := rfl
/-- the slice of the four bytes, as it lies -/
def v4 (c : Nat) : Array Value := #[.int .u8 ((c : Int) / 16777216), .int .u8 ((c : Int) / 65536 % 256), .int .u8 ((c : Int) / 256 % 256), .int .u8 ((c : Int) % 256)]
theorem v4_at (c : Nat) (hc : c < 4294967296) (i : Nat) (hi : i < 4) : (v4 c)[i]? = some (.int .u8 (((b4 c).getD i 0).toNat : Int)) := by
  obtain rfl | rfl | rfl | rfl : i = 0 ∨ i = 1 ∨ i = 2 ∨ i = 3 := by omega
  all_goals (simp [v4, b4]; try omega)
theorem conv_b4 (w : World) (c : Nat) (hc : c < 4294967296) : (convert 36 9 (.slice (some ⟨w.heap.size, 0, none⟩) 4 4)).run Try.prog (w.alloc (.cells (v4 c) 5)) = .ok (.string (bs (b4 c))) (w.alloc (.cells (v4 c) 5)) :=
  conv_bytes _ _ _ _ _ (b4 c) rfl (fun i hi => by rw [World.cell?_alloc_new, Nat.zero_add]; exact v4_at c hc i hi)
theorem conv_b4_drew (w : World) (c : Nat) (hc : c < 4294967296) : (convert 36 9 (.slice (some ⟨w.heap.size, 0, none⟩) 4 4)).run Try.prog (w.alloc (.cells (v4 c) 5)).drew = .ok (.string (bs (b4 c))) (w.alloc (.cells (v4 c) 5)).drew :=
  conv_bytes _ _ _ _ _ (b4 c) rfl (fun i hi => by rw [show ∀ (W : World) a, W.drew.cell? a = W.cell? a from fun _ _ => rfl, World.cell?_alloc_new, Nat.zero_add]; exact v4_at c hc i hi)
theorem conv_b4_drewN (w : World) (n : Nat) (c : Nat) (hc : c < 4294967296) : (convert 36 9 (.slice (some ⟨w.heap.size, 0, none⟩) 4 4)).run Try.prog ((w.alloc (.cells (v4 c) 5)).drewN n) = .ok (.string (bs (b4 c))) ((w.alloc (.cells (v4 c) 5)).drewN n) :=
  conv_bytes _ _ _ _ _ (b4 c) rfl (fun i hi => by rw [show ∀ (W : World) a, (W.drewN n).cell? a = W.cell? a from fun _ _ => rfl, World.cell?_alloc_new, Nat.zero_add]; exact v4_at c hc i hi)
theorem cN_lt (l : List UInt8) : cN l < 4294967296 := by have : cN l ≤ 4294967295 := Nat.sub_le _ _; omega
attribute [irreducible] b4 restN

set_option maxRecDepth 20000 in
set_option maxHeartbeats 1000000 in
theorem rest_any (b : Nat) (l : ByteArray) (hl : l.size ≤ 9223372036854775807) (w : World) (hT : TabAt w b 0) (hb : b < w.heap.size) :
    Calls Try.prog 21 #[.string l, .pointer (some ⟨b, 0, none⟩)] w fun e w' => e = .returned (.int .u32 (restN : Int)) ∧ Below w.heap.size w w' := by
  have hS := hide (fun W (h : TabAt W b 0) => sum_any b 0 l hl W h)
  have hM := hide (fun W (h : TabAt W b 0) => more_any b 0 firstS l hl W h)
  rw [show ((firstS.toNat : Nat) : Int) = 4294967295 from rfl] at hM
  have hR := hide (rest_eq l.data.toList)
  have hc := cN_lt l.data.toList
  have hm := hide (mN_def firstS l.data.toList)
  have hK := hide (fun W (h : TabAt W b 0) => more_any b 0 (moreS firstS l.data.toList) (bs (b4 (cN l.data.toList))) (by rw [bs_size, b4_length]; omega) W h)
  rw [bs_toList, hR.out, ← hm.out] at hK
  clear hR hm
  generalize mN firstS l.data.toList = m at hM hK
  generalize cN l.data.toList = c at hS hc hK
  have c1 := fun W : World => conv_b4 W c hc
  have c2 := fun W : World => conv_b4_drew W c hc
  have c3 := fun (W : World) (n : Nat) => conv_b4_drewN W n c hc
  have c4 := fun (W : World) (k : Nat) => conv_b4 (W.drewN k) c hc
  have c5 := fun (W : World) (k : Nat) => conv_b4_drew (W.drewN k) c hc
  have c6 := fun (W : World) (k n : Nat) => conv_b4_drewN (W.drewN k) n c hc
  simp only [show ∀ (W : World) k, (W.drewN k).heap.size = W.heap.size from fun _ _ => rfl] at c4 c5 c6
  unfold v4 at c1 c2 c3 c4 c5 c6
  have x1 : IntKind.u8.wrap ((c : Int) / 16777216) = (c : Int) / 16777216 := by rw [IntKind.wrap_u8]; omega
  have x2 : IntKind.u8.wrap ((c : Int) / 65536) = (c : Int) / 65536 % 256 := IntKind.wrap_u8 _
  have x3 : IntKind.u8.wrap ((c : Int) / 256) = (c : Int) / 256 % 256 := IntKind.wrap_u8 _
  have x4 : IntKind.u8.wrap (c : Int) = (c : Int) % 256 := IntKind.wrap_u8 _
  go_enter Try.func21, Try.ntmps21
  go_wp2_with (go_at_call 14; ((with_reducible refine (hS.out _ hT).mono ?_); rintro e w2 ⟨rfl, n, rfl⟩))
  go_region_with (first | (go_at_call 20; ((with_reducible refine (first_any _).mono ?_); rintro e w' ⟨rfl, rfl⟩)) | (go_at_call 16; ((with_reducible refine (hM.out _ ?_).mono ?_); (first | exact tabAt_drewN hT _ | exact tabAt_drewN (tabAt_alloc hT _ hb) _ | exact tabAt_alloc (tabAt_drewN hT _) _ hb | exact tabAt_drewN (tabAt_alloc (tabAt_drewN hT _) _ hb) _); rintro e w2 ⟨rfl, n, rfl⟩)) | (go_at_call 16; ((with_reducible refine (hK.out _ ?_).mono ?_); (first | exact tabAt_drewN hT _ | exact tabAt_drewN (tabAt_alloc hT _ hb) _ | exact tabAt_alloc (tabAt_drewN hT _) _ hb | exact tabAt_drewN (tabAt_alloc (tabAt_drewN hT _) _ hb) _); rintro e w2 ⟨rfl, n, rfl⟩)))
  all_goals go_wp2
  all_goals go_ret
  all_goals exact ⟨rfl, by repeat (first | exact Below.refl _ _ | refine below_drewN' ?_ _ | refine Below.drew ?_ | refine Below.alloc ?_ (by first | exact Nat.le_refl _ | simp) _)⟩

/- GENERATED -/

set_option maxRecDepth 20000 in
set_option maxHeartbeats 2000000 in
theorem polyRest_walk (a : ByteArray) (ha : a.size ≤ 9223372036854775807) (b : ByteArray) (hb : b.size ≤ 9223372036854775807) (w : World) :
    Calls Try.prog 7 #[.string a, .string b] w fun e w' => e = .returned (.bool true) ∧ Below w.heap.size w w' := by
  have z := (zero_of_info tab_zero).1
  have hsz := tabC_size 256
  have hst := tab_store
  have qa : (300 : Int) < (a.size : Int) → (300 : Int) ≤ (a.size : Int) := by omega
  have qb : (300 : Int) < (b.size : Int) → (300 : Int) ≤ (b.size : Int) := by omega
  by_cases ga : (300 : Int) < (a.size : Int) <;> by_cases gb : (300 : Int) < (b.size : Int)
  all_goals
    simp only [ga, gb, true_implies, false_implies] at qa qb
    (first | (have ea := eq_false ga) | (have ea := eq_true ga))
    (first | (have eb := eq_false gb) | (have eb := eq_true gb))
    go_enter Try.func7, Try.ntmps7
    go_wp2_with (first | (go_at_call 12; ((with_reducible refine (make_any _).mono ?_); rintro e w1 ⟨rfl, hb1⟩)))
    have hT1 := hide (tabAt_new w1)
    have hB1 := hide (hb1.alloc hb1.size (.cells (tabC 256) 24))
    have hL1 : w1.heap.size < (w1.alloc (.cells (tabC 256) 24)).heap.size := by simp
    generalize w1.alloc (.cells (tabC 256) 24) = w2 at hT1 hB1 hL1 ⊢
    refine wp_region_any (by kernel_rfl) ?_
    try (change wpAny _ _ _ _ _ _ _ (World.drew _))
    refine wpAny_ready (rs := [0]) (by kernel_rfl) (by simp) ?_
    refine AllReady.cons rfl (fun K hK => ?_) AllReady.nil
    go_simp
    go_wp2_with (first | (go_at_call 13; ((with_reducible refine (wakes2 _).mono ?_); rintro e w0 ⟨rfl, hb0⟩; have hT0 := tabAt_below (tabAt_drew hT1.out) hb0 hL1; have hL0 : w1.heap.size < w0.heap.size := Nat.lt_of_lt_of_le hL1 hb0.size)) | (go_at_call 21; ((with_reducible refine (rest_any _ _ (by first | omega | (simp; omega)) _ hT3 hL3).mono ?_); rintro e w5 ⟨rfl, hb5⟩)) | (go_at_call 21; ((with_reducible refine (rest_any _ _ (by first | omega | (simp; omega)) _ hT0 hL0).mono ?_); rintro e w3 ⟨rfl, hb3⟩; have hT3 := tabAt_below hT0 hb3 hL0; have hL3 : w1.heap.size < w3.heap.size := Nat.lt_of_lt_of_le hL0 hb3.size)))
    try (refine hK _ _ ?_; clear hK K)
    refine wpAny_take (i := 1) (v := ?_) rfl (by kernel_rfl) (by kernel_rfl) (by kernel_rfl) (fun _ _ _ h => h) (Or.inl ⟨?_, ?_⟩) ?_
    rotate_left
    · kernel_rfl
    · intro w
      go_simp
      try with_reducible rfl
    refine wpAny_take (i := 2) (v := ?_) rfl (by kernel_rfl) (by kernel_rfl) (by kernel_rfl) (fun _ _ _ h => h) (Or.inl ⟨?_, ?_⟩) ?_
    rotate_left
    · kernel_rfl
    · intro w
      go_simp
      try with_reducible rfl
    refine wpAny_take (i := 3) (v := ?_) rfl (by kernel_rfl) (by kernel_rfl) (by kernel_rfl) (fun _ _ _ h => h) (Or.inl ⟨?_, ?_⟩) ?_
    rotate_left
    · kernel_rfl
    · intro w
      go_simp
      try with_reducible rfl
    refine wpAny_take (i := 4) (v := ?_) rfl (by kernel_rfl) (by kernel_rfl) (by kernel_rfl) (fun _ _ _ h => h) (Or.inl ⟨?_, ?_⟩) ?_
    rotate_left
    · kernel_rfl
    · intro w
      go_simp
      try with_reducible rfl
    refine wpAny_take (i := 5) (v := ?_) rfl (by kernel_rfl) (by kernel_rfl) (by kernel_rfl) (fun _ _ _ h => h) (Or.inl ⟨?_, ?_⟩) ?_
    rotate_left
    · kernel_rfl
    · intro w
      go_simp
      try with_reducible rfl
    refine wpAny_take (i := 6) (v := ?_) rfl (by kernel_rfl) (by kernel_rfl) (by kernel_rfl) (fun _ _ _ h => h) (Or.inl ⟨?_, ?_⟩) ?_
    rotate_left
    · kernel_rfl
    · intro w
      go_simp
      try with_reducible rfl
    refine wpAny_take (i := 7) (v := ?_) rfl (by kernel_rfl) (by kernel_rfl) (by kernel_rfl) (fun _ _ _ h => h) (Or.inl ⟨?_, ?_⟩) ?_
    rotate_left
    · kernel_rfl
    · intro w
      go_simp
      try with_reducible rfl
    refine wpAny_take (i := 9) (v := ?_) rfl (by kernel_rfl) (by kernel_rfl) (by kernel_rfl) (fun _ _ _ h => h) (Or.inl ⟨?_, ?_⟩) ?_
    rotate_left
    · kernel_rfl
    · intro w
      go_simp
      try with_reducible rfl
    refine wpAny_take (i := 10) (v := ?_) rfl (by kernel_rfl) (by kernel_rfl) (by kernel_rfl) (fun _ _ _ h => h) (Or.inl ⟨?_, ?_⟩) ?_
    rotate_left
    · kernel_rfl
    · intro w
      go_simp
      try with_reducible rfl
    refine wpAny_take (i := 11) (v := ?_) rfl (by kernel_rfl) (by kernel_rfl) (by kernel_rfl) (fun _ _ _ h => h) (Or.inl ⟨?_, ?_⟩) ?_
    rotate_left
    · kernel_rfl
    · intro w
      go_simp
      try with_reducible rfl
    refine wpAny_take (i := 12) (v := ?_) rfl (by kernel_rfl) (by kernel_rfl) (by kernel_rfl) (fun _ _ _ h => h) (Or.inl ⟨?_, ?_⟩) ?_
    rotate_left
    · kernel_rfl
    · intro w
      go_simp
      try with_reducible rfl
    refine wpAny_take (i := 13) (v := ?_) rfl (by kernel_rfl) (by kernel_rfl) (by kernel_rfl) (fun _ _ _ h => h) (Or.inl ⟨?_, ?_⟩) ?_
    rotate_left
    · kernel_rfl
    · intro w
      go_simp
      try with_reducible rfl
    refine wpAny_take (i := 14) (v := ?_) rfl (by kernel_rfl) (by kernel_rfl) (by kernel_rfl) (fun _ _ _ h => h) (Or.inl ⟨?_, ?_⟩) ?_
    rotate_left
    · kernel_rfl
    · intro w
      go_simp
      try with_reducible rfl
    refine wpAny_ready (rs := [8]) (by kernel_rfl) (by simp) ?_
    refine AllReady.cons rfl (fun K hK => ?_) AllReady.nil
    go_simp
    go_wp2_with (first | (go_at_call 13; ((with_reducible refine (wakes2 _).mono ?_); rintro e w0 ⟨rfl, hb0⟩; have hT0 := tabAt_below (tabAt_drew hT1.out) hb0 hL1; have hL0 : w1.heap.size < w0.heap.size := Nat.lt_of_lt_of_le hL1 hb0.size)) | (go_at_call 21; ((with_reducible refine (rest_any _ _ (by first | omega | (simp; omega)) _ hT3 hL3).mono ?_); rintro e w5 ⟨rfl, hb5⟩)) | (go_at_call 21; ((with_reducible refine (rest_any _ _ (by first | omega | (simp; omega)) _ hT0 hL0).mono ?_); rintro e w3 ⟨rfl, hb3⟩; have hT3 := tabAt_below hT0 hb3 hL0; have hL3 : w1.heap.size < w3.heap.size := Nat.lt_of_lt_of_le hL0 hb3.size)))
    try (refine hK _ _ ?_; clear hK K)
    refine wpAny_ready (rs := [15]) (by kernel_rfl) (by simp) ?_
    refine AllReady.cons rfl (fun K hK => ?_) AllReady.nil
    go_simp
    go_wp2_with (first | (go_at_call 13; ((with_reducible refine (wakes2 _).mono ?_); rintro e w0 ⟨rfl, hb0⟩; have hT0 := tabAt_below (tabAt_drew hT1.out) hb0 hL1; have hL0 : w1.heap.size < w0.heap.size := Nat.lt_of_lt_of_le hL1 hb0.size)) | (go_at_call 21; ((with_reducible refine (rest_any _ _ (by first | omega | (simp; omega)) _ hT3 hL3).mono ?_); rintro e w5 ⟨rfl, hb5⟩)) | (go_at_call 21; ((with_reducible refine (rest_any _ _ (by first | omega | (simp; omega)) _ hT0 hL0).mono ?_); rintro e w3 ⟨rfl, hb3⟩; have hT3 := tabAt_below hT0 hb3 hL0; have hL3 : w1.heap.size < w3.heap.size := Nat.lt_of_lt_of_le hL0 hb3.size)))
    try (refine hK _ _ ?_; clear hK K)
    refine wpAny_take (i := 16) (v := ?_) rfl (by kernel_rfl) (by kernel_rfl) (by kernel_rfl) (fun _ _ _ h => h) (Or.inl ⟨?_, ?_⟩) ?_
    rotate_left
    · kernel_rfl
    · intro w
      go_simp
      try with_reducible rfl
    refine wpAny_take (i := 17) (v := ?_) rfl (by kernel_rfl) (by kernel_rfl) (by kernel_rfl) (fun _ _ _ h => h) (Or.inl ⟨?_, ?_⟩) ?_
    rotate_left
    · kernel_rfl
    · intro w
      go_simp
      try with_reducible rfl
    refine wpAny_take (i := 18) (v := ?_) rfl (by kernel_rfl) (by kernel_rfl) (by kernel_rfl) (fun _ _ _ h => h) (Or.inl ⟨?_, ?_⟩) ?_
    rotate_left
    · kernel_rfl
    · intro w
      go_simp
      try with_reducible rfl
    refine wpAny_done (by kernel_rfl) ?_ _

    go_wp2
    go_ret
    exact ⟨rfl, hB1.out.trans ((((Below.refl w2.heap.size w2).drew).trans (hb0.trans ((hb3.trans (hb5.mono hb3.size)).mono hb0.size))).mono hB1.out.size)⟩

set_option maxRecDepth 100000 in
theorem polyRest_lifted (os : Os) (started : os.Started) (H : Type) (enc : TypeId × Value → H) :
    ReturnsInHanded {} Try.checked os 7 .any (Rows.polyRestSpec.pre6 enc Try.prog Try.f7 Rows.polyRestRow.domain false) (Rows.polyRestSpec.post enc Try.prog Try.f7 false true false false) := by
  refine returnsInHanded_of_change (C := Try.checked) own started (by kernel_rfl) Try.func7
    (ChangeSpec.witness6 (enc := enc) (C := Try.checked) false ⟨#[], #[.string ⟨#[]⟩, .string ⟨#[]⟩], []⟩ 8 (by kernel_rfl) (by kernel_rfl) (by kernel_rfl) (by kernel_rfl)) ?_
  intro W base args ds gs before hval0 hW _ _
  have hval : ∀ (j : Nat) t v, Try.f7.params[j]? = some t → args[j]? = some v → Value.okWide Try.prog W .any base t v := hval0
  have hW' := hW
  obtain ⟨p, q, hA0, hV, rfl, hfz, hnd⟩ := hW
  have hA : DataW.TrodAll enc Try.prog W 0 (fun _ => true) true Try.f7.params.toList args.toList ds p := hA0
  rw [Try.params7] at hA hval
  obtain ⟨v0, vs0, d0, ds0, p0, q0, hargs, rfl, rfl, h0, r0⟩ := trodAll_cons hA
  obtain ⟨v1, vs1, d1, ds1, p1, q1, rfl, rfl, rfl, h1, r1⟩ := trodAll_cons r0
  obtain ⟨rfl, rfl, rfl⟩ := trodAll_nil r1
  obtain rfl : args = #[v0, v1] := by cases args; simp_all
  obtain ⟨rfl, rfl⟩ := trodVars_none hV
  obtain ⟨a, rfl, rfl, rfl, w0⟩ := ChangeMaps.open_string Try.underlying9 (hval 0 9 v0 rfl rfl) h0
  have z0 : a.size ≤ 9223372036854775807 := w0
  obtain ⟨b, rfl, rfl, rfl, w1⟩ := ChangeMaps.open_string Try.underlying9 (hval 1 9 v1 rfl rfl) h1
  have z1 : b.size ≤ 9223372036854775807 := w1
  clear hA0 hval0
  refine (polyRest_walk a z0 b z1 W).mono fun e W' ⟨he, hb⟩ => ?_
  subst he
  exact ⟨_, rfl, post_law laidOut (of_decide_eq_true (by kernel_rfl)) rfl rfl Try.underlying4 hW' ⟨rfl, rfl, rfl⟩ hb⟩

/-- THE STATEMENT -/
theorem polyRest_holds : Rows.PolyRestSaid :=
  OpenClaim.holds_of_wide 7 Try.f7 rfl rfl rfl rfl rfl rfl rfl ⟨rfl, rfl, rfl, rfl, rfl⟩ rfl rfl rfl rfl rfl (by kernel_rfl) Try.func7 (by kernel_rfl)
    (of_decide_eq_true (by kernel_rfl)) (by unfold Func.isWrapper; first | (rw [if_pos (by decide +kernel)]; kernel_rfl) | (rw [if_neg (by decide +kernel)]; exact ⟨rfl, rfl⟩))
    (fun os started H enc _ => polyRest_lifted os started H enc)

end Go.Proofs.Ytmhppjgclaahnaa
