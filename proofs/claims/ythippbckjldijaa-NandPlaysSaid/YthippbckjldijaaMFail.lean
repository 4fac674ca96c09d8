/-
  Layer 5's laws: the block of NandFails, as a value, step by step.
-/
import Derived.Test.YthippbckjldijaaNand18
--import Derived.Test.Zdbg
namespace Go.Proofs.Ythippbckjldijaa
set_option linter.unusedSimpArgs false
set_option linter.unusedVariables false
open Go.RowKit Go.WideShapes Go.ChangeShapes Go.ChangeAt Go.Deep

def fdB (c : UInt8) (j : Nat) : ByteArray := fullB ⟨#[c, UInt8.ofNat j]⟩ 32
def feB : ByteArray := fullB ⟨#[]⟩ 32
/-- the chip of NandFails: its block 1 -/
structure FailI (S : ChipM) (c : UInt8) (k nx : Nat) (wk fl : Bool) (s er : Nat) : Prop where
  len : S.L.length = 4
  pgs : S.pgs = 5
  size : S.size = 32
  off : S.off = false
  fuse : S.fuse = 0
  torn : S.torn = ⟨#[]⟩
  progs : 0 ≤ S.progs ∧ S.progs ≤ (nx : Int)
  eras : S.eras = (er : Int)
  sins : S.sins = (s : Int)
  mill : (S.blk 1).mill = false
  weak : (S.blk 1).weak = wk
  failed : (S.blk 1).failed = fl
  erased : (S.blk 1).erased = 0
  next : (S.blk 1).next = (nx : Int)
  plen : (S.blk 1).pages.length = 5
  page : ∀ j, j < k → (S.blk 1).pages.getD j pg0 = (fdB c j, feB)
theorem FailI.ok {S : ChipM} {c : UInt8} {k nx s er : Nat} {wk fl : Bool} (h : FailI S c k nx wk fl s er) (h1 : nx ≤ 100) (h2 : s ≤ 100) (h3 : er ≤ 100) : NandOk S :=
  ⟨by rw [h.size]; decide, by rw [h.torn]; decide, ⟨h.progs.1, by have := h.progs.2; omega⟩, by rw [h.eras]; omega, by rw [h.sins]; omega, by rw [h.fuse]; decide⟩
theorem fail_first (c : UInt8) : FailI (newS 4 5 32) c 0 0 false false 0 0 :=
  ⟨rfl, rfl, rfl, rfl, rfl, rfl, by decide, rfl, rfl, rfl, rfl, rfl, rfl, rfl, rfl, fun j hj => by omega⟩
theorem FailI.ask {S : ChipM} {c : UInt8} {k nx s er : Nat} {wk fl : Bool} (h : FailI S c k nx wk fl s er) (j : Nat) (hj : j < 5) : askE S 1 (j : Int) = 0 := by
  unfold askE
  rw [h.off, if_neg (by decide), if_pos ⟨by decide, by rw [h.len]; decide, by omega, by rw [h.pgs]; omega⟩]
theorem FailI.cut {S : ChipM} {c : UInt8} {k nx s er : Nat} {wk fl : Bool} (h : FailI S c k nx wk fl s er) : cutS S = S := by unfold cutS; rw [if_pos h.fuse]
theorem FailI.few {S : ChipM} {c : UInt8} {k nx s er : Nat} {wk fl : Bool} (h : FailI S c k nx wk fl s er) : 1 < S.L.length := by rw [h.len]; decide
/-- a page is programmed -/
theorem FailI.prog {S : ChipM} {c : UInt8} {k s er : Nat} (h : FailI S c k k false false s er) (hk : k < 5) :
    (progT S 1 (k : Int) (fdB c k) feB).2 = 0 ∧ FailI (progT S 1 (k : Int) (fdB c k) feB).1 c (k + 1) (k + 1) false false s er := by
  have e1 : progT S 1 (k : Int) (fdB c k) feB = (progS S 1 k (fdB c k) feB, progE S 1) := by
    unfold progT
    rw [if_neg (fun hn => hn (h.ask k hk)), if_neg (by rw [show (fdB c k).size = 32 from fullB_size _ _, show feB.size = 32 from fullB_size _ _, h.size]; decide)]
    rw [if_neg (fun hn => hn (by unfold sinE; rw [show Int.toNat 1 = 1 from rfl, h.failed, h.mill, if_neg (by decide), h.next, if_neg (by simp)]))]
    rfl
  have e2 : progS S 1 k (fdB c k) feB = (progsS (S.put 1 { S.blk 1 with next := (k : Int) + 1 })).put 1 { (progsS (S.put 1 { S.blk 1 with next := (k : Int) + 1 })).blk 1 with pages := ((progsS (S.put 1 { S.blk 1 with next := (k : Int) + 1 })).blk 1).pages.set k (fdB c k, feB) } := by
    unfold progS
    rw [if_neg (by rw [h.fuse]; decide), if_neg (by rw [h.weak]; decide)]
    rw [show cutS (progsS (S.put 1 { S.blk 1 with next := (k : Int) + 1 })) = progsS (S.put 1 { S.blk 1 with next := (k : Int) + 1 }) from if_pos h.fuse]
  have e3 : (progsS (S.put 1 { S.blk 1 with next := (k : Int) + 1 })).blk 1 = { S.blk 1 with next := (k : Int) + 1 } := blk_put_self S 1 _ h.few
  rw [e3] at e2
  have e4 := blk_put_self (progsS (S.put 1 { S.blk 1 with next := (k : Int) + 1 })) 1 { S.blk 1 with next := (k : Int) + 1, pages := (S.blk 1).pages.set k (fdB c k, feB) } (by show 1 < (S.put 1 _).L.length; rw [put_length]; exact h.few)
  rw [e1]
  refine ⟨by show progE S 1 = 0; unfold progE; rw [if_neg (by rw [h.fuse]; decide), if_neg (by rw [h.weak]; decide)], ?_⟩
  show FailI (progS S 1 k (fdB c k) feB) c (k + 1) (k + 1) false false s er
  rw [e2]
  refine ⟨by rw [put_length]; show (S.put 1 _).L.length = 4; rw [put_length, h.len], h.pgs, h.size, h.off, h.fuse, h.torn, ?_, h.eras, h.sins, ?_, ?_, ?_, ?_, ?_, ?_, ?_⟩
  · have := h.progs
    show 0 ≤ S.progs + 1 ∧ S.progs + 1 ≤ ((k + 1 : Nat) : Int)
    omega
  · rw [e4]; exact h.mill
  · rw [e4]; exact h.weak
  · rw [e4]; exact h.failed
  · rw [e4]; exact h.erased
  · rw [e4]; show (k : Int) + 1 = _; omega
  · rw [e4]; show ((S.blk 1).pages.set k _).length = 5; rw [List.length_set, h.plen]
  · intro j hj
    rw [e4]
    show ((S.blk 1).pages.set k _).getD j pg0 = _
    by_cases hjk : j = k
    · subst hjk
      exact getD_set_self _ _ _ _ (by rw [h.plen]; omega)
    · rw [getD_set_other _ _ _ _ _ hjk]
      exact h.page j (by omega)
theorem FailI.wreck {S : ChipM} {c : UInt8} {k nx s er : Nat} {fl : Bool} (h : FailI S c k nx false fl s er) : FailI (wreckS S 1) c k nx true fl s er := by
  have e1 : wreckS S 1 = S.put 1 { S.blk 1 with weak := true } := by unfold wreckS; rw [if_pos ⟨by decide, by rw [h.len]; decide⟩]; rfl
  have e2 := blk_put_self S 1 { S.blk 1 with weak := true } h.few
  rw [e1]
  refine ⟨by rw [put_length, h.len], h.pgs, h.size, h.off, h.fuse, h.torn, h.progs, h.eras, h.sins, ?_, ?_, ?_, ?_, ?_, ?_, fun j hj => ?_⟩
  · rw [e2]; exact h.mill
  · rw [e2]
  · rw [e2]; exact h.failed
  · rw [e2]; exact h.erased
  · rw [e2]; exact h.next
  · rw [e2]; exact h.plen
  · rw [e2]; exact h.page j hj
/-- an Erase of the wrecked block fails -/
theorem FailI.erase {S : ChipM} {c : UInt8} {k nx s er : Nat} (h : FailI S c k nx true false s er) : (eraseT S 1).2 = 10 ∧ FailI (eraseT S 1).1 c k nx true true s (er + 1) := by
  have e1 : eraseT S 1 = (erasedS S 1, 10) := by
    unfold eraseT
    rw [if_neg (fun hn => hn (h.ask 0 (by decide))), if_neg (fun hn => hn (by unfold sinE; rw [show Int.toNat 1 = 1 from rfl, h.failed, h.mill, if_neg (by decide), if_neg (by decide)])), if_neg (by rw [h.fuse]; decide)]
    unfold erasedE
    rw [show Int.toNat 1 = 1 from rfl, if_pos h.weak]
  have e2 : erasedS S 1 = (erasS S).put 1 { S.blk 1 with failed := true } := by
    unfold erasedS
    rw [if_pos h.weak, show cutS (erasS S) = erasS S from if_pos h.fuse]
  have e3 := blk_put_self (erasS S) 1 { S.blk 1 with failed := true } h.few
  rw [e1]
  refine ⟨rfl, ?_⟩
  show FailI (erasedS S 1) c k nx true true s (er + 1)
  rw [e2]
  refine ⟨by rw [put_length]; exact h.len, h.pgs, h.size, h.off, h.fuse, h.torn, h.progs, ?_, h.sins, ?_, ?_, ?_, ?_, ?_, ?_, fun j hj => ?_⟩
  · show S.eras + 1 = ((er + 1 : Nat) : Int)
    rw [h.eras]; omega
  · rw [e3]; exact h.mill
  · rw [e3]; exact h.weak
  · rw [e3]
  · rw [e3]; exact h.erased
  · rw [e3]; exact h.next
  · rw [e3]; exact h.plen
  · rw [e3]; exact h.page j hj
/-- a program of the wrecked block fails -/
theorem FailI.fails {S : ChipM} {c : UInt8} {k s er : Nat} (h : FailI S c k k true false s er) (hk : k < 5) :
    (progT S 1 (k : Int) feB feB).2 = 10 ∧ FailI (progT S 1 (k : Int) feB feB).1 c k (k + 1) true true s er := by
  have e1 : progT S 1 (k : Int) feB feB = (progS S 1 k feB feB, progE S 1) := by
    unfold progT
    rw [if_neg (fun hn => hn (h.ask k hk)), if_neg (by rw [show feB.size = 32 from fullB_size _ _, h.size]; decide)]
    rw [if_neg (fun hn => hn (by unfold sinE; rw [show Int.toNat 1 = 1 from rfl, h.failed, h.mill, if_neg (by decide), h.next, if_neg (by simp)]))]
    rfl
  have e2 : progS S 1 k feB feB = (progsS (S.put 1 { S.blk 1 with next := (k : Int) + 1 })).put 1 { (progsS (S.put 1 { S.blk 1 with next := (k : Int) + 1 })).blk 1 with pages := ((progsS (S.put 1 { S.blk 1 with next := (k : Int) + 1 })).blk 1).pages.set k (filledP S.size zeroB), failed := true } := by
    unfold progS
    rw [if_neg (by rw [h.fuse]; decide), if_pos h.weak]
    rw [show cutS (progsS (S.put 1 { S.blk 1 with next := (k : Int) + 1 })) = progsS (S.put 1 { S.blk 1 with next := (k : Int) + 1 }) from if_pos h.fuse]
  have e3 : (progsS (S.put 1 { S.blk 1 with next := (k : Int) + 1 })).blk 1 = { S.blk 1 with next := (k : Int) + 1 } := blk_put_self S 1 _ h.few
  rw [e3] at e2
  have e4 := blk_put_self (progsS (S.put 1 { S.blk 1 with next := (k : Int) + 1 })) 1 { S.blk 1 with next := (k : Int) + 1, pages := (S.blk 1).pages.set k (filledP S.size zeroB), failed := true } (by show 1 < (S.put 1 _).L.length; rw [put_length]; exact h.few)
  rw [e1]
  refine ⟨by show progE S 1 = 10; unfold progE; rw [if_neg (by rw [h.fuse]; decide), if_pos h.weak], ?_⟩
  show FailI (progS S 1 k feB feB) c k (k + 1) true true s er
  rw [e2]
  refine ⟨by rw [put_length]; show (S.put 1 _).L.length = 4; rw [put_length, h.len], h.pgs, h.size, h.off, h.fuse, h.torn, ?_, h.eras, h.sins, ?_, ?_, ?_, ?_, ?_, ?_, ?_⟩
  · have := h.progs
    show 0 ≤ S.progs + 1 ∧ S.progs + 1 ≤ ((k + 1 : Nat) : Int)
    omega
  · rw [e4]; exact h.mill
  · rw [e4]; exact h.weak
  · rw [e4]
  · rw [e4]; exact h.erased
  · rw [e4]; show (k : Int) + 1 = _; omega
  · rw [e4]; show ((S.blk 1).pages.set k _).length = 5; rw [List.length_set, h.plen]
  · intro j hj
    rw [e4]
    show ((S.blk 1).pages.set k _).getD j pg0 = _
    rw [getD_set_other _ _ _ _ _ (by omega)]
    exact h.page j hj
/-- what is asked of the failed block is a sin -/
theorem FailI.sin {S : ChipM} {c : UInt8} {k nx s er : Nat} {wk : Bool} (h : FailI S c k nx wk true s er) : (eraseT S 1).2 = 12 ∧ FailI (eraseT S 1).1 c k nx wk true (s + 1) er := by
  have e0 : sinE (S.blk 1) false = 12 := by unfold sinE; rw [h.failed, if_pos (.inl rfl)]
  have e1 : eraseT S 1 = ({ S with sins := S.sins + 1 }, 12) := by
    unfold eraseT
    rw [if_neg (fun hn => hn (h.ask 0 (by decide))), show Int.toNat 1 = 1 from rfl, if_pos (by rw [e0]; decide), e0]
    unfold sinS
    rw [if_neg (by rw [e0]; decide)]
  rw [e1]
  refine ⟨rfl, h.len, h.pgs, h.size, h.off, h.fuse, h.torn, h.progs, h.eras, ?_, h.mill, h.weak, h.failed, h.erased, h.next, h.plen, h.page⟩
  show S.sins + 1 = ((s + 1 : Nat) : Int)
  rw [h.sins]; omega
theorem blk_on (S : ChipM) (k : Nat) (hk : k < S.L.length) : (onS S).blk k = clrB (S.blk k) := by
  unfold ChipM.blk onS
  simp [List.getD, hk]
theorem FailI.on {S : ChipM} {c : UInt8} {k nx s er : Nat} {wk fl : Bool} (h : FailI S c k nx wk fl s er) : FailI (onS S) c k nx wk false s er := by
  have e := blk_on S 1 h.few
  refine ⟨by show (S.L.map clrB).length = 4; rw [List.length_map, h.len], h.pgs, h.size, rfl, rfl, h.torn, h.progs, h.eras, h.sins, ?_, ?_, ?_, ?_, ?_, ?_, fun j hj => ?_⟩
  · rw [e]; exact h.mill
  · rw [e]; exact h.weak
  · rw [e]; rfl
  · rw [e]; exact h.erased
  · rw [e]; exact h.next
  · rw [e]; exact h.plen
  · rw [e]; exact h.page j hj
theorem FailI.read {S : ChipM} {c : UInt8} {k nx s er : Nat} {wk fl : Bool} (h : FailI S c k nx wk fl s er) (j : Nat) (hj : j < k) (hk : k ≤ 5) : readP S 1 (j : Int) = (fdB c j, feB) := by
  unfold readP
  rw [if_pos (h.ask j (by omega)), Int.toNat_natCast]
  exact h.page j hj
theorem FailI.nextZ {S : ChipM} {c : UInt8} {k nx s er : Nat} {wk fl : Bool} (h : FailI S c k nx wk fl s er) : nextZ S 1 = (nx : Int) := by
  unfold Go.Proofs.Ythippbckjldijaa.nextZ
  rw [if_pos ⟨by decide, by rw [h.len]; decide⟩]
  exact h.next
theorem FailI.erasesZ {S : ChipM} {c : UInt8} {k nx s er : Nat} {wk fl : Bool} (h : FailI S c k nx wk fl s er) : erasesZ S 1 = 0 := by
  unfold Go.Proofs.Ythippbckjldijaa.erasesZ
  rw [if_pos ⟨by decide, by rw [h.len]; decide⟩]
  exact h.erased
end Go.Proofs.Ythippbckjldijaa
