import Derived.Test.YtfdgfeohmkdnoaaMSh
import Derived.Test.YtfdgfeohmkdnoaaShG3
import Derived.Test.YtfdgfeohmkdnoaaShG4
import Derived.Test.YtfdgfeohmkdnoaaKitE
import Derived.Test.YtfdgfeohmkdnoaaKitY
import Derived.Test.YtfdgfeohmkdnoaaKitX
import Derived.Test.YtfdgfeohmkdnoaaKitV
/-
  Layer 26: what a till keeps of its closed shifts: plain.
-/
--import Derived.Test.Zdbg
namespace Go.Proofs.Ytfdgfeohmkdnoaa
set_option linter.unusedSimpArgs false
set_option linter.unusedVariables false
open Go.RowKit Go.WideShapes Go.ChangeShapes Go.ChangeAt Go.Deep

/-- all that were closed: C; what was added since the last beginning: sm, ct -/
structure K26 (M : ShM) (C : List TotM) (sm ct : Int) (j : Nat) : Prop where
  keep : M.keep = 6
  next : M.next = (C.length : Int) + 1 + (if M.op = true then 1 else 0)
  L : M.L = C.drop (C.length - 6)
  len : C.length ≤ j
  smb : 0 ≤ sm ∧ sm ≤ (j : Int) * 1099511627776
  ctb : 0 ≤ ct ∧ ct ≤ (j : Int)
  now : M.op = true → sm = M.now.s + M.now.v + M.now.r + M.now.i + M.now.o ∧ ct = M.now.c
theorem K26.mono {M : ShM} {C : List TotM} {sm ct : Int} {j : Nat} (h : K26 M C sm ct j) : K26 M C sm ct (j + 1) :=
  ⟨h.keep, h.next, h.L, by have := h.len; omega, by have := h.smb; omega, by have := h.ctb; omega, h.now⟩
theorem K26.start {M : ShM} {C : List TotM} {sm ct : Int} {j : Nat} (h : K26 M C sm ct j) (he : shStartE M = 0) : K26 (shStartM M) C 0 0 (j + 1) := by
  have hm : shStartM M = { M with op := true, now := tot0, next := M.next + 1 } := by unfold shStartM; rw [if_pos he]
  rw [hm]
  have ho : M.op = false := by
    unfold shStartE at he
    split at he
    · cases he
    · next h1 => simpa using h1
  have hn := h.next
  rw [ho] at hn
  refine ⟨h.keep, ?_, h.L, by have := h.len; omega, by omega, by omega, fun _ => ⟨rfl, rfl⟩⟩
  dsimp only
  rw [if_pos rfl, hn, if_neg (by decide)]
  omega
theorem startM_no {M : ShM} (he : ¬ shStartE M = 0) : shStartM M = M := by unfold shStartM; rw [if_neg he]
theorem endM_no {M : ShM} (he : ¬ shEndE M = 0) : shEndM M = M := by
  unfold shEndE at he
  unfold shEndM
  split
  · next h => rw [if_pos h] at he; exact absurd rfl he
  · rfl
theorem addM_no {M : ShM} {k am : Int} (he : ¬ shAddE M k am = 0) : shAddM M k am = M := by unfold shAddM; rw [if_neg he]
theorem K26.ended {M : ShM} {C : List TotM} {sm ct : Int} {j : Nat} (h : K26 M C sm ct j) (he : shEndE M = 0) : K26 (shEndM M) (C ++ [M.now]) sm ct (j + 1) ∧ shEndN M = (C.length : Int) + 1 ∧ shEndT M = M.now ∧ sm = M.now.s + M.now.v + M.now.r + M.now.i + M.now.o ∧ ct = M.now.c := by
  have ho : M.op = true := by
    unfold shEndE at he
    split at he
    · assumption
    · cases he
  have hm : shEndM M = { M with op := false, now := tot0, L := (M.L ++ [M.now]).drop (M.L.length + 1 - M.keep.toNat) } := by unfold shEndM; rw [if_pos ho]
  have hn := h.next
  rw [if_pos ho] at hn
  refine ⟨?_, ?_, ?_, h.now ho⟩
  · rw [hm]
    have hk : M.keep.toNat = 6 := by rw [h.keep]; rfl
    refine ⟨h.keep, ?_, ?_, by rw [List.length_append, List.length_singleton]; have := h.len; omega, by have := h.smb; omega, by have := h.ctb; omega, fun hh => by cases hh⟩
    · dsimp only
      rw [if_neg (by decide), List.length_append, List.length_singleton, hn]
      omega
    · dsimp only
      rw [hk, h.L, List.length_append, List.length_singleton, List.length_drop]
      by_cases h6 : C.length ≤ 5
      · rw [show C.length - 6 = 0 by omega, show C.length - 0 + 1 - 6 = 0 by omega, show C.length + 1 - 6 = 0 by omega]
        simp only [List.drop_zero]
      · rw [show C.length - (C.length - 6) + 1 - 6 = 1 by omega, List.drop_append_of_le_length (by rw [List.length_drop]; omega), List.drop_drop, List.drop_append_of_le_length (by omega), show C.length - 6 + 1 = C.length + 1 - 6 by omega]
  · unfold shEndN
    rw [if_pos ho, hn]
    omega
  · unfold shEndT
    rw [if_pos ho]
theorem K26.added {M : ShM} {C : List TotM} {sm ct k am : Int} {j : Nat} (h : K26 M C sm ct j) (he : shAddE M k am = 0) (hk : 1 ≤ k ∧ k ≤ 5) (ham : 0 ≤ am ∧ am < 1099511627776) : K26 (shAddM M k am) C (sm + am) (ct + 1) (j + 1) := by
  obtain ⟨p1, p2, p3, p4, p5⟩ := shAdd_parts he
  obtain ⟨h1, h2⟩ := h.now p3
  have hm : shAddM M k am = { M with now := shAddT M.now k am } := by unfold shAddM; rw [if_pos he]
  rw [hm]
  refine ⟨h.keep, h.next, h.L, by have := h.len; omega, by have := h.smb; omega, by have := h.ctb; omega, fun _ => ?_⟩
  have hkk : k = 1 ∨ k = 2 ∨ k = 3 ∨ k = 4 ∨ k = 5 := by omega
  unfold shAddT
  dsimp only
  rcases hkk with rfl | rfl | rfl | rfl | rfl
  · rw [if_pos rfl]; dsimp only; omega
  · rw [if_neg (by decide), if_pos rfl]; dsimp only; omega
  · rw [if_neg (by decide), if_neg (by decide), if_pos rfl]; dsimp only; omega
  · rw [if_neg (by decide), if_neg (by decide), if_neg (by decide), if_pos rfl]; dsimp only; omega
  · rw [if_neg (by decide), if_neg (by decide), if_neg (by decide), if_neg (by decide), if_pos rfl]; dsimp only; omega
/-- what is told of a closed one -/
theorem K26.told {M : ShM} {C : List TotM} {sm ct : Int} {j : Nat} (h : K26 M C sm ct j) {x : Int} (hx : 1 ≤ x ∧ x ≤ (C.length : Int)) : shTot M x = some (C.getD (x - 1).toNat tot0) ∨ (shTot M x = none ∧ 6 ≤ (C.length : Int) - x) := by
  have hlast : shLast M = (C.length : Int) + 1 := by
    have hn := h.next
    unfold shLast
    split
    · next ho => rw [if_pos ho] at hn; omega
    · next ho => rw [if_neg ho] at hn; omega
  have hnn : ¬ (M.op = true ∧ x = M.next - 1) := fun ⟨ho, he⟩ => by
    have hn := h.next
    rw [if_pos ho] at hn
    omega
  have hl : (M.L.length : Int) = (C.length : Int) - ((C.length - 6 : Nat) : Int) := by rw [h.L, List.length_drop]; omega
  unfold shTot
  rw [if_neg hnn, hlast]
  by_cases ho : (C.length : Int) + 1 ≤ x ∨ x < (C.length : Int) + 1 - (M.L.length : Int)
  · rw [if_pos ho]
    exact .inr ⟨rfl, by omega⟩
  · rw [if_neg ho]
    refine .inl ?_
    have hi : ((M.L.length : Int) - ((C.length : Int) + 1 - x)).toNat = (x - 1).toNat - (C.length - 6) := by omega
    rw [hi, h.L]
    simp only [List.getD, List.getElem?_drop]
    rw [show C.length - 6 + ((x - 1).toNat - (C.length - 6)) = (x - 1).toNat by omega]
def clM (C : List TotM) (x : Int) : Option Value := if 1 ≤ x ∧ x ≤ (C.length : Int) then some (totV (C.getD (x - 1).toNat tot0)) else none
theorem clM_next (C : List TotM) (t : TotM) (x : Int) : clM (C ++ [t]) x = if x = (C.length : Int) + 1 then some (totV t) else clM C x := by
  unfold clM
  rw [List.length_append, List.length_singleton]
  by_cases h : x = (C.length : Int) + 1
  · subst h
    rw [if_pos rfl, if_pos (by omega), show ((C.length : Int) + 1 - 1).toNat = C.length by omega]
    simp [List.getD]
  · rw [if_neg h]
    by_cases h2 : 1 ≤ x ∧ x ≤ (C.length : Int)
    · rw [if_pos h2, if_pos (by omega)]
      have : (x - 1).toNat < C.length := by omega
      simp only [List.getD]
      rw [List.getElem?_append_left this]
    · rw [if_neg h2, if_neg (by omega)]
theorem clM_new (C : List TotM) : clM C ((C.length : Int) + 1) = none := by unfold clM; rw [if_neg (by omega)]
end Go.Proofs.Ytfdgfeohmkdnoaa

/-
  Layer 26: acts that come in; a map of totals.
-/
--import Derived.Test.Zdbg
namespace Go.Proofs.Ytfdgfeohmkdnoaa
set_option linter.unusedSimpArgs false
set_option linter.unusedVariables false
open Go.RowKit Go.WideShapes Go.ChangeShapes Go.ChangeAt Go.Deep

structure ActS where
  d : Int
  k : Int
  a : Int
def actS0 : ActS := ⟨0, 0, 0⟩
def actSC (x : ActS) : List Value := [.int .i64 x.d, .int .u8 x.k, .int .i64 x.a]
def ActSOk (x : ActS) : Prop := inR x.d ∧ (0 ≤ x.k ∧ x.k ≤ 255) ∧ inR x.a
/-- a slice of acts that comes in -/
def ActSs (w : World) (a : Option Addr) (L : List ActS) : Prop := ∀ i, i < L.length → ∃ b off, a = some ⟨b, off, none⟩ ∧ b < w.heap.size ∧ w.cell? ⟨b, off + i * 3, none⟩ = some (.int .i64 (L.getD i actS0).d) ∧ w.cell? ⟨b, off + i * 3 + 1, none⟩ = some (.int .u8 (L.getD i actS0).k) ∧ w.cell? ⟨b, off + i * 3 + 2, none⟩ = some (.int .i64 (L.getD i actS0).a)
theorem ActSs.below {w w' : World} {a : Option Addr} {L : List ActS} (h : ActSs w a L) (hb : Below w.heap.size w w') : ActSs w' a L := fun i hi => by
  obtain ⟨b, off, h1, h2, h3, h4, h5⟩ := h i hi
  exact ⟨b, off, h1, Nat.lt_of_lt_of_le h2 hb.size, cell_keep h3 h2 hb, cell_keep h4 h2 hb, cell_keep h5 h2 hb⟩
def ActsS (w : World) (v : Value) : Prop := ∃ (a : Option Addr) (L : List ActS) (cap : Nat), v = .slice a L.length cap ∧ L.length ≤ cap ∧ L.length ≤ 9223372036854775807 ∧ ActSs w a L ∧ ∀ x ∈ L, ActSOk x
set_option maxRecDepth 100000 in
theorem open_actSs {H : Type} {enc : TypeId × Value → H} {w : World} {base : Nat} {sp : Nat → Bool} {held : Bool} {r : Reach} {b0 : Nat} {v : Value} {d : DataW H} {ps : List MemPlace}
    (hv : Value.okWide Try.prog w r b0 22 v) (h : DataW.Trod enc Try.prog w base sp held 22 v d ps) : ActsS w v := by
  obtain ⟨L, ⟨a, cap, rfl, hm, hc, _, hat⟩, hty⟩ := open_rows [.int .i64, .int .u8, .int .i64] Try.underlying22 Try.underlying35 (by kernel_rfl) (by kernel_rfl) (by decide) rfl (fun j hj => by
    have : j = 0 ∨ j = 1 ∨ j = 2 := by simp at hj; omega
    rcases this with rfl | rfl | rfl <;> rfl) hv h
  obtain ⟨M, rfl, hM⟩ := rows_typed actSC ActSOk L (fun x hx => by
    obtain ⟨hl, hcell⟩ := hty x hx
    match x, (show x.length = 3 from hl), hcell with
    | [x0, x1, x2], _, hcell =>
      obtain ⟨k, rfl, hk⟩ := hcell 0 _ _ rfl rfl
      obtain ⟨s, rfl, hs⟩ := hcell 1 _ _ rfl rfl
      obtain ⟨n, rfl, hn⟩ := hcell 2 _ _ rfl rfl
      exact ⟨⟨k, s, n⟩, rfl, wf_i64 hk, wf_u8 hs, wf_i64 hn⟩)
  refine ⟨a, M, cap, by rw [List.length_map], by simpa using hc, by unfold maxLen at hm; simpa using hm, fun i hi => ?_, hM⟩
  obtain ⟨b, off, ha, hb, hcs⟩ := hat i (by simpa using hi)
  have e := getD_map actSC M actS0 i hi
  rw [e] at hcs
  refine ⟨b, off, ha, hb, ?_, ?_, ?_⟩
  · have := hcs 0 (show 0 < 3 by decide)
    rw [Nat.add_zero] at this
    exact this
  · have := hcs 1 (show 1 < 3 by decide)
    rw [← Nat.add_assoc] at this
    exact this
  · have := hcs 2 (show 2 < 3 by decide)
    rw [← Nat.add_assoc] at this
    exact this
theorem wf_num {a : Int} (h : inR a) : (Lit.int .i64 a).wf = true := by
  obtain ⟨h2, h3⟩ := h
  simp [Lit.wf, IntKind.min, IntKind.max, IntKind.signed, IntKind.bits]
  exact ⟨h2, h3⟩
theorem Keyed_num : Go.Maps.Keyed Try.prog 3 := Go.Maps.int_keyed Try.underlying3
theorem key_num {a : Int} (h : inR a) : keyOf Try.prog 3 (.int .i64 a) = some (.int .i64 a) := Go.Maps.keyOf_int_mk Try.underlying3 (wf_num h)
theorem same_num (j a : Int) : (Lit.int .i64 j).sameKey (.int .i64 a) = true ↔ j = a := by simp [Lit.sameKey]
theorem MapIs.keepsT {Ts : List TypeId} {w w' : World} {P : Program} {k : TypeId} {b n c : Nat} {f : Lit → Option Value} (h : MapIs w P k b n c f) (hk : KeepsT Ts w w') : MapIs w' P k b n c f := by
  refine h.kept ?_
  obtain ⟨D, ⟨es, clock, h1, h2⟩, h3⟩ := h
  rw [h1]
  exact hk _ _ h1 fun c t fz e => by cases e
/-- a map of the closed ones' totals -/
def ClAt (w : World) (pm N : Nat) (C : List TotM) : Prop := ∃ f n, n ≤ N ∧ MapIs w Try.prog 3 pm n C.length f ∧ ∀ x : Int, inR x → f (.int .i64 x) = clM C x
theorem ClAt.keepsT {Ts : List TypeId} {w w' : World} {pm N : Nat} {C : List TotM} (h : ClAt w pm N C) (hk : KeepsT Ts w w') : ClAt w' pm N C := by
  obtain ⟨f, n, h1, h2, h3⟩ := h
  exact ⟨f, n, h1, h2.keepsT hk, h3⟩
theorem ClAt.below {w w' : World} {pm N : Nat} {C : List TotM} (h : ClAt w pm N C) (hb : Below w.heap.size w w') : ClAt w' pm N C := h.keepsT (Ts := []) (KeepsT.of_below hb)
theorem ClAt.mono {w : World} {pm N : Nat} {C : List TotM} (h : ClAt w pm N C) : ClAt w pm (N + 1) C := by
  obtain ⟨f, n, h1, h2, h3⟩ := h
  exact ⟨f, n, by omega, h2, h3⟩
theorem ClAt.only {w w' : World} {pm N r : Nat} {C : List TotM} (h : ClAt w pm N C) (ho : Only r w w') (hr : pm ≠ r) : ClAt w' pm N C := by
  obtain ⟨f, n, h1, h2, h3⟩ := h
  exact ⟨f, n, h1, h2.only ho hr, h3⟩
theorem ClAt.lt {w : World} {pm N : Nat} {C : List TotM} (h : ClAt w pm N C) : pm < w.heap.size := by
  obtain ⟨f, n, h1, h2, h3⟩ := h
  exact h2.lt
/-- shifts stay where a map turns -/
theorem ShIs.only {w w' : World} {B p r : Nat} {M : ShM} {v : Value} (h : ShIs w B p M v) (ho : Only r w w') (hr : ∀ d t fz, w.heap[r]? ≠ some (.cells d t fz)) : ShIs w' B p M v :=
  ⟨(ho.block p h.lt (fun e => hr _ _ _ (e ▸ h.head))).trans h.head, owns_only h.row ho hr, h.low, h.ok⟩
end Go.Proofs.Ytfdgfeohmkdnoaa
