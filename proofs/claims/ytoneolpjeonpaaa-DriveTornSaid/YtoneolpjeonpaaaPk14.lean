/-
  Lemmas and contracts of this project's own, put together: MDriveT.
-/
import Derived.Test.YtoneolpjeonpaaaPk13
namespace Go.Proofs.Ytoneolpjeonpaaa
set_option linter.unusedSimpArgs false
set_option linter.unusedVariables false
def tS0 : ChipM := newS 4 4 32
def tS1 : ChipM := (eraseT tS0 0).1
def tS2 : ChipM := (eraseT tS1 1).1
theorem ts_ok0 : NandOk tS0 := ⟨by decide +kernel, by decide +kernel, by decide +kernel, by decide +kernel, by decide +kernel, by decide +kernel⟩
theorem ts_ok1 : NandOk tS1 := ⟨by decide +kernel, by decide +kernel, by decide +kernel, by decide +kernel, by decide +kernel, by decide +kernel⟩
theorem ts_ok2 : NandOk tS2 := ⟨by decide +kernel, by decide +kernel, by decide +kernel, by decide +kernel, by decide +kernel, by decide +kernel⟩
theorem ts_few0 : FewE tS0 := fun k hk => by
  have h4 : k < 4 := hk
  have : k = 0 ∨ k = 1 ∨ k = 2 ∨ k = 3 := by omega
  rcases this with rfl | rfl | rfl | rfl <;> exact ⟨by decide +kernel, by decide +kernel⟩
theorem ts_few1 : FewE tS1 := fun k hk => by
  have h4 : k < 4 := by
    have h : tS1.L.length = 4 := by decide +kernel
    rwa [h] at hk
  have : k = 0 ∨ k = 1 ∨ k = 2 ∨ k = 3 := by omega
  rcases this with rfl | rfl | rfl | rfl <;> exact ⟨by decide +kernel, by decide +kernel⟩
theorem ts_er0 : (eraseT tS0 0).2 = 0 := by decide +kernel
theorem ts_er1 : (eraseT tS1 1).2 = 0 := by decide +kernel
theorem ts_dims0 : DimsSame tS0 tS1 := ⟨by decide +kernel, by decide +kernel, by decide +kernel⟩
theorem ts_dims1 : DimsSame tS1 tS2 := ⟨by decide +kernel, by decide +kernel, by decide +kernel⟩
theorem prog_eq (S : ChipM) (k i : Nat) (d e : ByteArray) (h1 : askE S (k : Int) (i : Int) = 0) (hd : d.size = S.size) (he : e.size = 32) (h2 : sinE (S.blk k) (decide ((i : Int) ≠ (S.blk k).next)) = 0) : progT S (k : Int) (i : Int) d e = (progS S k i d e, progE S k) := by
  unfold progT
  rw [if_neg (fun h => h h1), if_neg (by rw [hd, he]; exact fun h => h.elim (fun h => h rfl) (fun h => h rfl)), Int.toNat_natCast, if_neg (fun h => h h2), Int.toNat_natCast]
def tornT : ByteArray := ⟨#[254, 255, 253]⟩
section
variable (f bf s b2 : ByteArray)
theorem ts_pr (hf : f.size = 32) (hb : bf.size = 32) : progT tS2 ((0 : Nat) : Int) ((0 : Nat) : Int) f bf = (progS tS2 0 0 f bf, 0) :=
  prog_eq tS2 0 0 f bf (by decide +kernel) (hf.trans (by decide +kernel)) hb (by decide +kernel)
theorem ts_dims2 : DimsSame tS2 (progS tS2 0 0 f bf) := ⟨rfl, rfl, rfl⟩
/-- behind so many of the second programs -/
def tP (c : Nat) : Nat → ChipM
  | 0 => { progS tS2 0 0 f bf with fuse := 1 + (c : Int), torn := tornT }
  | k + 1 => progS (tP c k) 1 k s b2
/-- c and k are few -/
theorem few_ck {p : Nat → Nat → Prop} (h : p 0 0 ∧ p 1 0 ∧ p 1 1 ∧ p 2 0 ∧ p 2 1 ∧ p 2 2 ∧ p 3 0 ∧ p 3 1 ∧ p 3 2 ∧ p 3 3) (c k : Nat) (hc : c < 4) (hk : k ≤ c) : p c k := by
  obtain ⟨h1, h2, h3, h4, h5, h6, h7, h8, h9, h10⟩ := h
  have : (c = 0 ∧ k = 0) ∨ (c = 1 ∧ k = 0) ∨ (c = 1 ∧ k = 1) ∨ (c = 2 ∧ k = 0) ∨ (c = 2 ∧ k = 1) ∨ (c = 2 ∧ k = 2) ∨ (c = 3 ∧ k = 0) ∨ (c = 3 ∧ k = 1) ∨ (c = 3 ∧ k = 2) ∨ (c = 3 ∧ k = 3) := by omega
  rcases this with ⟨rfl, rfl⟩ | ⟨rfl, rfl⟩ | ⟨rfl, rfl⟩ | ⟨rfl, rfl⟩ | ⟨rfl, rfl⟩ | ⟨rfl, rfl⟩ | ⟨rfl, rfl⟩ | ⟨rfl, rfl⟩ | ⟨rfl, rfl⟩ | ⟨rfl, rfl⟩ <;> assumption
theorem tp_ask (c k : Nat) (hc : c < 4) (hk : k ≤ c) : askE (tP f bf s b2 c k) ((1 : Nat) : Int) (k : Int) = 0 :=
  few_ck (p := fun c k => askE (tP f bf s b2 c k) ((1 : Nat) : Int) (k : Int) = 0) ⟨rfl, rfl, rfl, rfl, rfl, rfl, rfl, rfl, rfl, rfl⟩ c k hc hk
theorem tp_sin (c k : Nat) (hc : c < 4) (hk : k ≤ c) : sinE ((tP f bf s b2 c k).blk 1) (decide ((k : Int) ≠ ((tP f bf s b2 c k).blk 1).next)) = 0 :=
  few_ck (p := fun c k => sinE ((tP f bf s b2 c k).blk 1) (decide ((k : Int) ≠ ((tP f bf s b2 c k).blk 1).next)) = 0) ⟨rfl, rfl, rfl, rfl, rfl, rfl, rfl, rfl, rfl, rfl⟩ c k hc hk
theorem tp_end (c k : Nat) (hc : c < 4) (hk : k ≤ c) : progE (tP f bf s b2 c k) 1 = if k = c then 9 else 0 :=
  few_ck (p := fun c k => progE (tP f bf s b2 c k) 1 = if k = c then 9 else 0) ⟨rfl, rfl, rfl, rfl, rfl, rfl, rfl, rfl, rfl, rfl⟩ c k hc hk
theorem tp_dims (c k : Nat) (hc : c < 4) (hk : k ≤ c) : (tP f bf s b2 c k).L.length = 4 ∧ (tP f bf s b2 c k).pgs = 4 ∧ (tP f bf s b2 c k).size = 32 ∧ (tP f bf s b2 c k).off = false :=
  few_ck (p := fun c k => (tP f bf s b2 c k).L.length = 4 ∧ (tP f bf s b2 c k).pgs = 4 ∧ (tP f bf s b2 c k).size = 32 ∧ (tP f bf s b2 c k).off = false) ⟨⟨rfl, rfl, rfl, rfl⟩, ⟨rfl, rfl, rfl, rfl⟩, ⟨rfl, rfl, rfl, rfl⟩, ⟨rfl, rfl, rfl, rfl⟩, ⟨rfl, rfl, rfl, rfl⟩, ⟨rfl, rfl, rfl, rfl⟩, ⟨rfl, rfl, rfl, rfl⟩, ⟨rfl, rfl, rfl, rfl⟩, ⟨rfl, rfl, rfl, rfl⟩, ⟨rfl, rfl, rfl, rfl⟩⟩ c k hc hk
theorem tp_next (c k : Nat) (hc : c < 4) (hk : k ≤ c) : (tP f bf s b2 c (k + 1)).L.length = 4 ∧ (tP f bf s b2 c (k + 1)).pgs = 4 ∧ (tP f bf s b2 c (k + 1)).size = 32 ∧ (tP f bf s b2 c (c + 1)).off = true :=
  few_ck (p := fun c k => (tP f bf s b2 c (k + 1)).L.length = 4 ∧ (tP f bf s b2 c (k + 1)).pgs = 4 ∧ (tP f bf s b2 c (k + 1)).size = 32 ∧ (tP f bf s b2 c (c + 1)).off = true) ⟨⟨rfl, rfl, rfl, rfl⟩, ⟨rfl, rfl, rfl, rfl⟩, ⟨rfl, rfl, rfl, rfl⟩, ⟨rfl, rfl, rfl, rfl⟩, ⟨rfl, rfl, rfl, rfl⟩, ⟨rfl, rfl, rfl, rfl⟩, ⟨rfl, rfl, rfl, rfl⟩, ⟨rfl, rfl, rfl, rfl⟩, ⟨rfl, rfl, rfl, rfl⟩, ⟨rfl, rfl, rfl, rfl⟩⟩ c k hc hk
theorem tp_nums (c k : Nat) (hc : c < 4) (hk : k ≤ c) : (tP f bf s b2 c k).torn = tornT ∧ (tP f bf s b2 c k).progs = 1 + (k : Int) ∧ (tP f bf s b2 c k).eras = 2 ∧ (tP f bf s b2 c k).sins = 0 ∧ (tP f bf s b2 c k).fuse = 1 + (c : Int) - (k : Int) :=
  few_ck (p := fun c k => (tP f bf s b2 c k).torn = tornT ∧ (tP f bf s b2 c k).progs = 1 + (k : Int) ∧ (tP f bf s b2 c k).eras = 2 ∧ (tP f bf s b2 c k).sins = 0 ∧ (tP f bf s b2 c k).fuse = 1 + (c : Int) - (k : Int)) ⟨⟨rfl, rfl, rfl, rfl, rfl⟩, ⟨rfl, rfl, rfl, rfl, rfl⟩, ⟨rfl, rfl, rfl, rfl, rfl⟩, ⟨rfl, rfl, rfl, rfl, rfl⟩, ⟨rfl, rfl, rfl, rfl, rfl⟩, ⟨rfl, rfl, rfl, rfl, rfl⟩, ⟨rfl, rfl, rfl, rfl, rfl⟩, ⟨rfl, rfl, rfl, rfl, rfl⟩, ⟨rfl, rfl, rfl, rfl, rfl⟩, ⟨rfl, rfl, rfl, rfl, rfl⟩⟩ c k hc hk
theorem tp_ok (c k : Nat) (hc : c < 4) (hk : k ≤ c) : NandOk (tP f bf s b2 c k) := by
  obtain ⟨h1, h2, h3, h4, h5⟩ := tp_nums f bf s b2 c k hc hk
  obtain ⟨-, -, h6, -⟩ := tp_dims f bf s b2 c k hc hk
  exact ⟨by rw [h6]; decide, by rw [h1]; decide, by rw [h2]; omega, by rw [h3]; omega, by rw [h4]; omega, by rw [h5]; omega⟩
theorem tp_pr (hs : s.size = 32) (hb : b2.size = 32) (c k : Nat) (hc : c < 4) (hk : k ≤ c) : progT (tP f bf s b2 c k) ((1 : Nat) : Int) (k : Int) s b2 = (tP f bf s b2 c (k + 1), if k = c then 9 else 0) := by
  rw [prog_eq _ 1 k s b2 (tp_ask f bf s b2 c k hc hk) (hs.trans (tp_dims f bf s b2 c k hc hk).2.2.1.symm) hb (tp_sin f bf s b2 c k hc hk), tp_end f bf s b2 c k hc hk]
  rfl
/-- the power is on again -/
def tX (c : Nat) : ChipM := onS (tP f bf s b2 c (c + 1))
theorem tx_dims (c : Nat) (hc : c < 4) : DimsSame (tP f bf s b2 c (c + 1)) (tX f bf s b2 c) := ⟨by unfold tX onS; simp, rfl, rfl⟩
theorem few_c {p : Nat → Prop} (h : p 0 ∧ p 1 ∧ p 2 ∧ p 3) (c : Nat) (hc : c < 4) : p c := by
  obtain ⟨h1, h2, h3, h4⟩ := h
  have : c = 0 ∨ c = 1 ∨ c = 2 ∨ c = 3 := by omega
  rcases this with rfl | rfl | rfl | rfl <;> assumption
theorem tx_read0 (c : Nat) (hc : c < 4) : askE (tX f bf s b2 c) 0 0 = 0 ∧ readP (tX f bf s b2 c) 0 0 = (f, bf) :=
  few_c (p := fun c => askE (tX f bf s b2 c) 0 0 = 0 ∧ readP (tX f bf s b2 c) 0 0 = (f, bf)) ⟨⟨by kernel_rfl, by kernel_rfl⟩, ⟨by kernel_rfl, by kernel_rfl⟩, ⟨by kernel_rfl, by kernel_rfl⟩, ⟨by kernel_rfl, by kernel_rfl⟩⟩ c hc
theorem tx_read1 (c : Nat) (hc : c < 4) : askE (tX f bf s b2 c) 1 (c : Int) = 0 ∧ readP (tX f bf s b2 c) 1 (c : Int) = filledP 32 tornT :=
  few_c (p := fun c => askE (tX f bf s b2 c) 1 (c : Int) = 0 ∧ readP (tX f bf s b2 c) 1 (c : Int) = filledP 32 tornT) ⟨⟨by kernel_rfl, by kernel_rfl⟩, ⟨by kernel_rfl, by kernel_rfl⟩, ⟨by kernel_rfl, by kernel_rfl⟩, ⟨by kernel_rfl, by kernel_rfl⟩⟩ c hc
end
def tornD : List UInt8 := (filledP 32 tornT).1.data.toList
def tornB : List UInt8 := (filledP 32 tornT).2.data.toList
theorem torn_is : filledP 32 tornT = (bs tornD, bs tornB) := rfl
theorem torn_len : tornD.length ≤ 1024 ∧ tornB.length ≤ 1024 := by decide +kernel
theorem torn_tag : parseE tornD tornB ≠ 0 := fun h => by
  obtain ⟨-, ⟨-, h1⟩, -⟩ := parseE_zero _ _ h
  have h2 := congrArg (fun l => l.getD 0 0) h1
  have h3 : (tornB.take 28).getD 0 0 = 253 := by decide +kernel
  rw [h3] at h2
  revert h2
  show ¬ ((255 : UInt8) = 253)
  decide
theorem torn_blank : ¬ (AllFF (bs tornD) ∧ AllFF (bs tornB)) := fun h => by
  have h2 : (254 : UInt8) ∈ tornD := by decide +kernel
  have := h.1 254 h2
  revert this
  decide
theorem torn_fact : factB (bs tornB) = true := by decide +kernel
end Go.Proofs.Ytoneolpjeonpaaa
