/-
  Lemmas and contracts of this project's own, put together: MvO, Lv5, MLv, Lv6, MLw.
-/
import Derived.Laws.IdiomStrings
import Derived.Test.YtjfmkfhjbdiojaaGreatPk19
namespace Go.Proofs.YtjfmkfhjbdiojaaGreat
set_option linter.unusedSimpArgs false
set_option linter.unusedVariables false
open Go.RowKit Go.WideShapes Go.ChangeShapes Go.ChangeAt Go.Deep W

theorem byte_text (w : World) (b : Nat) (x : Nat) (hx : x < 256) (h : w.heap[b]? = some (.cells #[.int .u8 (x : Int)] 5 (0, 0))) :
    (convert 22 9 (.slice (some ⟨b, 0, none⟩) 1 1)).run Tryz.prog w = .ok (.string ⟨#[UInt8.ofNat x]⟩) w := by
  have h1 := run_convert_bytes_back (P := Tryz.prog) w 22 9 5 ⟨b, 0, none⟩ 1 [UInt8.ofNat x] Tryz.underlying22 Tryz.underlying5 Tryz.underlying9 (fun i hi => by
    obtain rfl : i = 0 := by have : i < 1 := hi; omega
    refine (cell_of_block h 0).trans ?_
    show some (Value.int .u8 (x : Int)) = some (Value.int .u8 ((UInt8.ofNat x).toNat : Int))
    rw [UInt8.toNat_ofNat', Nat.mod_eq_of_lt hx])
  exact h1
theorem nums16 {w : World} {k : IntKind} {v : Value} {zs : List Int} (h : NumsAt w k v zs) : ∃ (a : Option Addr) (cap : Nat), v = .slice a zs.length cap ∧ zs.length ≤ cap ∧ ∀ i, i < zs.length → ∃ b off, a = some ⟨b, off, none⟩ ∧ b < w.heap.size ∧ w.cell? ⟨b, off + i, none⟩ = some (.int k (zs.getD i 0)) := by
  rcases h with ⟨rfl, rfl⟩ | ⟨b, off, cap, rfl, hc, hm, hp, hi⟩ | ⟨a, cap, rfl, rfl⟩
  · exact ⟨none, 0, rfl, Nat.le_refl _, fun i hi => by simp at hi⟩
  · exact ⟨some ⟨b, off, none⟩, cap, rfl, hc, fun i hil => ⟨b, off, rfl, World.block_lt_of_cell? w _ (hi i hil), hi i hil⟩⟩
  · exact ⟨some a, cap, rfl, Nat.zero_le _, fun i hi => by simp at hi⟩
theorem bytes_list (t : ByteArray) : ∃ td : List UInt8, t = bs td ∧ td.length = t.size := ⟨t.data.toList, rfl, size_list t⟩
theorem tg_ok16 (l : Int) (i : Nat) (h : 0 ≤ l ∧ l ≤ 65535) (hi : i ≤ 1000) : TgM.ok ⟨1, l, (i : Int) + 1, 0, 1⟩ := by
  unfold TgM.ok TagOk
  dsimp only
  omega
theorem mod_nat (b : Int) (h : 0 ≤ b) (n : Nat) (hn : 0 < n) : ∃ c : Nat, b.tmod (n : Int) = (c : Int) ∧ c < n := by
  refine ⟨(b % (n : Int)).toNat, ?_, ?_⟩
  · rw [Int.tmod_eq_emod_of_nonneg h, Int.toNat_of_nonneg (Int.emod_nonneg _ (by omega))]
  · have h1 := Int.emod_nonneg b (show (n : Int) ≠ 0 by omega)
    have h2 := Int.emod_lt_of_pos b (show (0 : Int) < (n : Int) by omega)
    omega
theorem wrap_sm (n : Int) (h : -1000000 ≤ n ∧ n ≤ 1000000) : wrap64 n = n := by unfold wrap64; omega
theorem u64_id16 (n : Int) (h : 0 ≤ n) (h2 : n ≤ 18446744073709551615) : IntKind.u64.wrap n = n := by
  unfold IntKind.wrap
  simp [IntKind.signed, IntKind.bits]
  omega
theorem run_storeVar_part {P : Program} (w : World) (g off : Nat) (t ty : TypeId) (old cs : Array Value) (hg : w.heap[g]? = some (.cells old t (0, 0))) (hi : (P.info? ty).map (·.size) = some cs.size)
    (hfit : off + cs.size ≤ old.size) (h1 : cs.all (·.oneCell') = true) :
    (storeVar ty ⟨g, off, none⟩ (.agg cs)).run P w = .ok () (w.setRow g (old.toList.take off ++ cs.toList ++ old.toList.drop (off + cs.size)).toArray) := by
  have := run_storeCells_at P g off t cs.toList 0 old w hg (by simpa using hfit) (fun v hv => (Array.all_eq_true_iff_forall_mem.1 h1) v (by simpa using hv))
  cases hq : P.info? ty with
  | none => simp [hq] at hi
  | some i =>
    have hs : cs.size = i.size := by simp [hq] at hi; omega
    simp [storeVar, sizeOf, typeInfo, hq, Value.cells, hs] at this ⊢
    exact this
/-- a row, stored into a part of a greater one, at the operation -/
theorem wpList_storePart {P : Program} {ops : Array Oper} {rest : List Oper} {o : Oper} {a : Act} {w : World} {Q : Exit → Act → World → Prop} (hgd : o.guard = none) (ty : TypeId) (x y : Operand) (ho : o.op = .store ty x y)
    (g off : Nat) (hx : a.eval x = .pointer (some ⟨g, off, none⟩)) (cs : Array Value) (hy : a.eval y = .agg cs) (t : TypeId) (old new : Array Value) (hg : w.heap[g]? = some (.cells old t (0, 0)))
    (hi : (P.info? ty).map (·.size) = some cs.size) (hfit : off + cs.size ≤ old.size) (h1 : cs.all (·.oneCell') = true)
    (hnew : (old.toList.take off ++ cs.toList ++ old.toList.drop (off + cs.size)).toArray = new)
    (h : wpList P ops Q rest (a.put o.dst undef) (w.setRow g new)) : wpList P ops Q (o :: rest) a w :=
  wpList_plain hgd fun _ hK => by
    subst hnew
    unfold Oper.wp execOp
    simp only [ho, hx, hy, Instr.storeAt, Instr.sureAddr, Sem.run_bind, Sem.run_pure, Result.andThen_ok, run_storeVar_part w g off t ty old cs hg hi hfit h1]
    exact hK _ _ h
/-- where a logical page is, or the zero place -/
def spZ (M : Spots) (l : Nat) : Int × Int := (M.getD l none).getD (0, 0)
theorem at16 {w : World} {p q o l : Nat} {pg : Int} {nb : Nat} {S : Spots} (i : Nat) (hi : i < S.length) (h : WhereAt w p q o l pg nb S) :
    Calls Tryz.prog 11 #[.pointer (some ⟨p, 0, none⟩), .int .i64 (i : Int)] w fun e w' => e = .returned (.tuple #[.agg #[.int .i64 (spZ S i).1, .int .i64 (spZ S i).2], .bool (S.getD i none).isSome]) ∧ Below w.heap.size w w' := by
  unfold spZ
  cases hs : S.getD i none with
  | none => exact at_none h i hi hs
  | some x => exact at_some h i hi x.1 x.2 hs
/-- an array of places, the first k known -/
def arrL (M : Spots) (n k : Nat) : List (Int × Int) := (List.range n).map fun i => if i < k then spZ M i else (0, 0)
theorem arrL_len (M : Spots) (n k : Nat) : (arrL M n k).length = n := by simp [arrL]
theorem arrL_at (M : Spots) (n k i : Nat) (hi : i < n) : (arrL M n k).getD i (0, 0) = if i < k then spZ M i else (0, 0) := by simp [arrL, List.getD, hi]
theorem arrL_next (M : Spots) (n k : Nat) (hk : k < n) : (arrL M n k).set k (spZ M k) = arrL M n (k + 1) := by
  apply List.ext_getElem
  · simp [arrL_len]
  · intro i h1 h2
    have hi : i < n := by rw [List.length_set, arrL_len] at h1; exact h1
    rw [List.getElem_set]
    simp only [arrL, List.getElem_map, List.getElem_range]
    by_cases e : k = i
    · subst e; rw [if_pos rfl, if_pos (by omega)]
    · rw [if_neg e]
      by_cases e2 : i < k
      · rw [if_pos e2, if_pos (by omega)]
      · rw [if_neg e2, if_neg (by omega)]
theorem arr_zero (M : Spots) : (flat2 (arrL M 6 0)).toArray = #[.int .i64 0, .int .i64 0, .int .i64 0, .int .i64 0, .int .i64 0, .int .i64 0, .int .i64 0, .int .i64 0, .int .i64 0, .int .i64 0, .int .i64 0, .int .i64 0] := rfl
theorem flat2_head (x : Int × Int) (L : List (Int × Int)) : flat2 (x :: L) = .int .i64 x.1 :: .int .i64 x.2 :: flat2 L := rfl
theorem flat2_dbl (L : List (Int × Int)) : (flat2 L).length = L.length * 2 := by
  induction L with
  | nil => rfl
  | cons x L ih => rw [flat2_head, List.length_cons, List.length_cons, ih, List.length_cons]; omega
theorem flat2_put : ∀ (L : List (Int × Int)) (k : Nat) (x : Int × Int), k < L.length → (flat2 L).take (k * 2) ++ [.int .i64 x.1, .int .i64 x.2] ++ (flat2 L).drop (k * 2 + 2) = flat2 (L.set k x)
  | [], k, x, h => absurd h (by simp)
  | a :: L, 0, x, h => by rw [flat2_head]; rfl
  | a :: L, k + 1, x, h => by
    have ih := flat2_put L k x (by simpa using h)
    rw [flat2_head, List.set_cons_succ, flat2_head, ← ih, show (k + 1) * 2 = k * 2 + 1 + 1 by omega, show k * 2 + 1 + 1 + 2 = k * 2 + 2 + 1 + 1 by omega]
    rfl
end Go.Proofs.YtjfmkfhjbdiojaaGreat

namespace Go.Proofs.YtjfmkfhjbdiojaaGreat
set_option linter.unusedSimpArgs false
set_option linter.unusedVariables false
open Go.RowKit Go.WideShapes Go.ChangeShapes Go.ChangeAt Go.Deep W

theorem byte_text2 (w : World) (b : Nat) (x y : Nat) (hx : x < 256) (hy : y < 256) (h : w.heap[b]? = some (.cells #[.int .u8 (x : Int), .int .u8 (y : Int)] 5 (0, 0))) :
    (convert 22 9 (.slice (some ⟨b, 0, none⟩) 2 2)).run Tryz.prog w = .ok (.string ⟨#[UInt8.ofNat x, UInt8.ofNat y]⟩) w := by
  have h1 := run_convert_bytes_back (P := Tryz.prog) w 22 9 5 ⟨b, 0, none⟩ 2 [UInt8.ofNat x, UInt8.ofNat y] Tryz.underlying22 Tryz.underlying5 Tryz.underlying9 (fun i hi => by
    have hi2 : i = 0 ∨ i = 1 := by have : i < 2 := hi; omega
    rcases hi2 with rfl | rfl
    · refine (cell_of_block h 0).trans ?_
      show some (Value.int .u8 (x : Int)) = some (Value.int .u8 ((UInt8.ofNat x).toNat : Int))
      rw [UInt8.toNat_ofNat', Nat.mod_eq_of_lt hx]
    · refine (cell_of_block h 1).trans ?_
      show some (Value.int .u8 (y : Int)) = some (Value.int .u8 ((UInt8.ofNat y).toNat : Int))
      rw [UInt8.toNat_ofNat', Nat.mod_eq_of_lt hy])
  exact h1
/-- the bytes that the law puts for a page l by a number s -/
def txt17 (l s : Nat) : List UInt8 := (fullB ⟨#[UInt8.ofNat l, UInt8.ofNat (s % 256)]⟩ 32).data.toList
theorem txt17_bs (l s : Nat) : bs (txt17 l s) = fullB ⟨#[UInt8.ofNat l, UInt8.ofNat (s % 256)]⟩ 32 := by
  unfold txt17
  generalize fullB ⟨#[UInt8.ofNat l, UInt8.ofNat (s % 256)]⟩ 32 = t
  rfl
theorem txt17_len (l s : Nat) : (txt17 l s).length = 32 := by
  unfold txt17
  rw [size_list, fullB_size]
theorem u8_wrap (n : Nat) : IntKind.u8.wrap (n : Int) = ((n % 256 : Nat) : Int) := by
  unfold IntKind.wrap
  simp [IntKind.signed, IntKind.bits]
theorem tg_ok17 (l s : Nat) (h : l < 256) (hs : s ≤ 1000000) : TgM.ok ⟨1, l, s, 0, 1⟩ := by
  unfold TgM.ok TagOk
  dsimp only
  omega
def PutL (B0 : Nat) (A : MvA) (nb pg : Nat) (N : Int) (X : MvS) (l s : Nat) (w : World) (e : Ending) (w' : World) : Prop :=
  ∃ (Y : MvS) (k j : Nat), e = .returned (.int .i64 0) ∧ PutX nb pg 32 N X Y k j ⟨1, l, s, 0, 1⟩ (txt17 l s) ∧ MvAt w' B0 A nb pg (mapX Y l k j ⟨1, l, s, 0, 1⟩ (txt17 l s)) ∧ TurnM B0 A.mo w w'
section
variable {B0 nb pg : Nat} {A : MvA} {X : MvS} {N : Int}
set_option maxRecDepth 100000 in
set_option maxHeartbeats 8000000 in
theorem put17 (hok : HOk nb pg 32 N X) (hN : N ≤ 800000) (hpg : 2 ≤ pg) (hpg2 : pg ≤ 64) (hnb : nb ≤ 256) (hr : 1 ≤ X.lf ∨ 1 ≤ freeN X.L) (l s : Nat) (hl : l < X.M.length) (hl2 : l < 256) (hs : s ≤ 1000000) (w : World) (h : MvAt w B0 A nb pg X) :
    Calls Tryz.prog 10 #[.agg #[.pointer (some ⟨A.d, 0, none⟩), .pointer (some ⟨A.pp, 0, none⟩), .pointer (some ⟨A.sb, 0, none⟩), .pointer (some ⟨A.mp, 0, none⟩)], .int .i64 (l : Int), .int .u64 (s : Int)] w (PutL B0 A nb pg N X l s w) := by
  obtain ⟨s8, hs8⟩ : ∃ s8, s % 256 = s8 := ⟨_, rfl⟩
  have HX8 := hide (show l < 256 ∧ s8 < 256 by omega)
  have HWB := hide (show IntKind.u8.wrap (l : Int) = (l : Int) ∧ IntKind.u8.wrap (s : Int) = (s8 : Int) by rw [u8_wrap, u8_wrap, hs8, Nat.mod_eq_of_lt hl2]; exact ⟨rfl, rfl⟩)
  have htb := txt17_bs l s
  have htl := txt17_len l s
  have HFU := hide (fun W => full16_any ⟨#[UInt8.ofNat l, UInt8.ofNat s8]⟩ (show 2 ≤ 1000000 by decide) 32 (by decide) W)
  rw [hs8] at htb
  rw [← htb] at HFU
  have HPU := hide (fun W (hW : MvAt W B0 A nb pg X) => put16 hok hN hpg (by omega) hnb hr ⟨1, l, s, 0, 1⟩ (tg_ok17 l s hl2 hs) (txt17 l s) htl W hW)
  unfold Put16 at HPU
  dsimp only at HPU
  have HWP := hide (fun (Y : MvS) (k j : Nat) (hM : Y.M = X.M) (hk : k < nb) (hj : j < pg) (hf : ∀ m, X.M.getD m none ≠ some ((k : Int), (j : Int))) W (hW : MvAt W B0 A nb pg Y) => wput16 hpg2 hnb l k j ⟨1, l, s, 0, 1⟩ (txt17 l s) (by rw [hM]; exact hl) hk hj (fun m hm => absurd (by rw [← hM]; exact hm) (hf m)) W hW)
  have H := hide h
  have HSZ := hide h.size
  unfold PutL
  clear h hok hN hpg hpg2 hnb hr hl hl2 hs htb htl hs8
  generalize txt17 l s = td at *
  have hal := (Below.refl w.heap.size w).alloc (Nat.le_refl _) (.cells #[.pointer (some ⟨A.d, 0, none⟩), .pointer (some ⟨A.pp, 0, none⟩), .pointer (some ⟨A.sb, 0, none⟩), .pointer (some ⟨A.mp, 0, none⟩)] 29)
  have X1 := hide (H.out.below hal)
  have M1 := hide (heap_new w (.cells #[.pointer (some ⟨A.d, 0, none⟩), .pointer (some ⟨A.pp, 0, none⟩), .pointer (some ⟨A.sb, 0, none⟩), .pointer (some ⟨A.mp, 0, none⟩)] 29))
  have B1 := hide (TurnM.of_below (mo := A.mo) hal HSZ.out)
  clear hal H
  go_enter Tryz.func10, Tryz.ntmps10
  go_upto_region 1 with (fail)
  generalize w.alloc (.cells #[.pointer (some ⟨A.d, 0, none⟩), .pointer (some ⟨A.pp, 0, none⟩), .pointer (some ⟨A.sb, 0, none⟩), .pointer (some ⟨A.mp, 0, none⟩)] 29) = w1 at *
  obtain ⟨mb, hmb⟩ : ∃ k, w.heap.size = k := ⟨_, rfl⟩
  rw [hmb] at M1 ⊢
  clear hmb
  have X0 := hide X1.out.drew
  have M0 := hide (show w1.drew.heap[mb]? = _ from M1.out)
  have BB0 := hide (show TurnM B0 A.mo w w1.drew from B1.out.drew)
  clear X1 M1 B1
  go_cut [7, 8] from 9 to 25 (fun s7 s8 W => ∃ (ab k j : Nat) (Y : MvS), s7 = .pointer (some ⟨ab, 0, none⟩) ∧ s8 = .int .i64 0 ∧ PutX nb pg 32 N X Y k j ⟨1, l, s, 0, 1⟩ td ∧ MvAt W B0 A nb pg Y ∧ W.heap[ab]? = some (.cells #[.int .i64 (k : Int), .int .i64 (j : Int)] 41 (0, 0)) ∧ W.heap[mb]? = some (.cells #[.pointer (some ⟨A.d, 0, none⟩), .pointer (some ⟨A.pp, 0, none⟩), .pointer (some ⟨A.sb, 0, none⟩), .pointer (some ⟨A.mp, 0, none⟩)] 29 (0, 0)) ∧ TurnM B0 A.mo w W)
  case first =>
    refine wp_region_held_drew (S := (fun W => W.heap[mb]? = some (.cells #[.pointer (some ⟨A.d, 0, none⟩), .pointer (some ⟨A.pp, 0, none⟩), .pointer (some ⟨A.sb, 0, none⟩), .pointer (some ⟨A.mp, 0, none⟩)] 29 (0, 0)))) (by kernel_rfl) (M0.out) (fun hHeld => ?_)
    generalize w1.drew = v0 at *
    refine wpAnyH_take (i := 0) (oi := { dst := some 10, op := Op.fieldAddr 29 (Operand.tmp 3) 2, type := 0, pos := "law.go:42", after := #[], guard := none }) (v := ?_) rfl (by kernel_rfl) (by kernel_rfl) (by kernel_rfl) (fun _ _ _ h => h) (Or.inl ⟨by kernel_rfl, ?_⟩) hHeld ?_
    rotate_left
    · (intro w hSw; (try dsimp only at hSw); have m0 := cell_of_block hSw 0; have m1 := cell_of_block hSw 1; have m2 := cell_of_block hSw 2; have m3 := cell_of_block hSw 3; go_simp); try with_reducible rfl
    try simp only [Act.put, List.setIfInBounds_toArray, List.set_cons_zero, List.set_cons_succ]
    refine wpAnyH_take (i := 1) (oi := { dst := some 11, op := Op.load 26 (Operand.tmp 10), type := 26, pos := "law.go:42", after := #[{ on := 0, ground := Ground.data }], guard := none }) (v := ?_) rfl (by kernel_rfl) (by kernel_rfl) (by kernel_rfl) (fun _ _ _ h => h) (Or.inl ⟨by kernel_rfl, ?_⟩) hHeld ?_
    rotate_left
    · (intro w hSw; (try dsimp only at hSw); have m0 := cell_of_block hSw 0; have m1 := cell_of_block hSw 1; have m2 := cell_of_block hSw 2; have m3 := cell_of_block hSw 3; go_simp); try with_reducible rfl
    try simp only [Act.put, List.setIfInBounds_toArray, List.set_cons_zero, List.set_cons_succ]
    refine wpAnyH_take (i := 2) (oi := { dst := some 12, op := Op.move (Operand.tmp 1), type := 3, pos := "law.go:42", after := #[], guard := none }) (v := ?_) rfl (by kernel_rfl) (by kernel_rfl) (by kernel_rfl) (fun _ _ _ h => h) (Or.inl ⟨by kernel_rfl, ?_⟩) hHeld ?_
    rotate_left
    · (intro w hSw; (try dsimp only at hSw); have m0 := cell_of_block hSw 0; have m1 := cell_of_block hSw 1; have m2 := cell_of_block hSw 2; have m3 := cell_of_block hSw 3; go_simp); try with_reducible rfl
    try simp only [Act.put, List.setIfInBounds_toArray, List.set_cons_zero, List.set_cons_succ]
    refine wpAnyH_take (i := 3) (oi := { dst := some 13, op := Op.move (Operand.tmp 2), type := 39, pos := "law.go:42", after := #[], guard := none }) (v := ?_) rfl (by kernel_rfl) (by kernel_rfl) (by kernel_rfl) (fun _ _ _ h => h) (Or.inl ⟨by kernel_rfl, ?_⟩) hHeld ?_
    rotate_left
    · (intro w hSw; (try dsimp only at hSw); have m0 := cell_of_block hSw 0; have m1 := cell_of_block hSw 1; have m2 := cell_of_block hSw 2; have m3 := cell_of_block hSw 3; go_simp); try with_reducible rfl
    try simp only [Act.put, List.setIfInBounds_toArray, List.set_cons_zero, List.set_cons_succ]
    refine wpAnyH_take (i := 4) (oi := { dst := some 14, op := Op.build 47 #[(0, Operand.const (Value.int IntKind.u8 1)), (1, Operand.tmp 12), (2, Operand.tmp 13), (4, Operand.const (Value.int IntKind.i64 1))], type := 47, pos := "law.go:42", after := #[{ on := 2, ground := Ground.data }, { on := 3, ground := Ground.data }], guard := none }) (v := ?_) rfl (by kernel_rfl) (by kernel_rfl) (by kernel_rfl) (fun _ _ _ h => h) (Or.inl ⟨by kernel_rfl, ?_⟩) hHeld ?_
    rotate_left
    · (intro w hSw; (try dsimp only at hSw); have m0 := cell_of_block hSw 0; have m1 := cell_of_block hSw 1; have m2 := cell_of_block hSw 2; have m3 := cell_of_block hSw 3; go_simp); try with_reducible rfl
    try simp only [Act.put, List.setIfInBounds_toArray, List.set_cons_zero, List.set_cons_succ]
    refine wpAnyH_take (i := 5) (oi := { dst := some 15, op := Op.move (Operand.tmp 1), type := 3, pos := "law.go:42", after := #[], guard := none }) (v := ?_) rfl (by kernel_rfl) (by kernel_rfl) (by kernel_rfl) (fun _ _ _ h => h) (Or.inl ⟨by kernel_rfl, ?_⟩) hHeld ?_
    rotate_left
    · (intro w hSw; (try dsimp only at hSw); have m0 := cell_of_block hSw 0; have m1 := cell_of_block hSw 1; have m2 := cell_of_block hSw 2; have m3 := cell_of_block hSw 3; go_simp); try with_reducible rfl
    try simp only [Act.put, List.setIfInBounds_toArray, List.set_cons_zero, List.set_cons_succ]
    refine wpAnyH_take (i := 6) (oi := { dst := some 16, op := Op.convert 3 5 (Operand.tmp 15), type := 5, pos := "law.go:42", after := #[{ on := 5, ground := Ground.data }], guard := none }) (v := ?_) rfl (by kernel_rfl) (by kernel_rfl) (by kernel_rfl) (fun _ _ _ h => h) (Or.inl ⟨by kernel_rfl, ?_⟩) hHeld ?_
    rotate_left
    · (intro w hSw; (try dsimp only at hSw); have m0 := cell_of_block hSw 0; have m1 := cell_of_block hSw 1; have m2 := cell_of_block hSw 2; have m3 := cell_of_block hSw 3; go_simp); try with_reducible rfl
    try simp only [Act.put, List.setIfInBounds_toArray, List.set_cons_zero, List.set_cons_succ]
    refine wpAnyH_take (i := 7) (oi := { dst := some 17, op := Op.move (Operand.tmp 2), type := 39, pos := "law.go:42", after := #[], guard := none }) (v := ?_) rfl (by kernel_rfl) (by kernel_rfl) (by kernel_rfl) (fun _ _ _ h => h) (Or.inl ⟨by kernel_rfl, ?_⟩) hHeld ?_
    rotate_left
    · (intro w hSw; (try dsimp only at hSw); have m0 := cell_of_block hSw 0; have m1 := cell_of_block hSw 1; have m2 := cell_of_block hSw 2; have m3 := cell_of_block hSw 3; go_simp); try with_reducible rfl
    try simp only [Act.put, List.setIfInBounds_toArray, List.set_cons_zero, List.set_cons_succ]
    refine wpAnyH_take (i := 8) (oi := { dst := some 18, op := Op.convert 39 5 (Operand.tmp 17), type := 5, pos := "law.go:42", after := #[{ on := 7, ground := Ground.data }], guard := none }) (v := ?_) rfl (by kernel_rfl) (by kernel_rfl) (by kernel_rfl) (fun _ _ _ h => h) (Or.inl ⟨by kernel_rfl, ?_⟩) hHeld ?_
    rotate_left
    · (intro w hSw; (try dsimp only at hSw); have m0 := cell_of_block hSw 0; have m1 := cell_of_block hSw 1; have m2 := cell_of_block hSw 2; have m3 := cell_of_block hSw 3; go_simp); try with_reducible rfl
    try simp only [Act.put, List.setIfInBounds_toArray, List.set_cons_zero, List.set_cons_succ]
    refine wpAnyH_ready (rs := [9, 16]) (by kernel_rfl) (by simp) (AllReadyH.cons (o := { dst := some 19, op := Op.buildSlice 22 2 #[(0, Operand.tmp 16), (1, Operand.tmp 18)], type := 22, pos := "law.go:42", after := #[{ on := 6, ground := Ground.data }, { on := 8, ground := Ground.data }], guard := none }) rfl (fun K hK => ?_) (AllReadyH.cons (o := { dst := some 7, op := Op.alloc 41, type := 0, pos := "law.go:42", after := #[], guard := none }) rfl (fun K hK => ?_) AllReadyH.nil))
    · have hOld := hide hHeld
      clear hHeld
      go_simp
      try rw [HWB.out.1]
      try rw [HWB.out.2]
      obtain ⟨ob, hob⟩ : ∃ ob, ob = Obj.cells #[.int .u8 (l : Int), .int .u8 (s8 : Int)] 5 := ⟨_, rfl⟩
      try rw [← hob]
      have hal := (Below.refl v0.heap.size v0).alloc (Nat.le_refl _) ob
      have X1 := hide (X0.out.below hal)
      have M1 := hide ((hal.block _ (heap_lt M0.out)).trans M0.out)
      have BB1 := hide (BB0.out.trans (TurnM.of_below hal X0.out.size))
      have hnb := heap_new v0 ob
      clear hal
      generalize v0.alloc ob = v1 at *
      generalize v0.heap.size = nb at *
      rw [hob] at hnb
      have N1 := hide hnb
      clear hob hnb
      (try go_wp2_with fail)
      refine hK.out _ _ (M1.out) (fun hHeld => ?_)
      clear hK K hOld
      try simp only [Act.put, List.setIfInBounds_toArray, List.set_cons_zero, List.set_cons_succ]
      refine wpAnyH_ready (rs := [10, 16]) (by kernel_rfl) (by simp) (AllReadyH.cons (o := { dst := some 20, op := Op.convert 22 9 (Operand.tmp 19), type := 9, pos := "law.go:42", after := #[{ on := 9, ground := Ground.data }], guard := none }) rfl (fun K hK => ?_) (AllReadyH.cons (o := { dst := some 7, op := Op.alloc 41, type := 0, pos := "law.go:42", after := #[], guard := none }) rfl (fun K hK => ?_) AllReadyH.nil))
      · have hOld := hide hHeld
        clear hHeld
        go_simp
        have hcv := byte_text2 v1 nb l s8 HX8.out.1 HX8.out.2 N1.out
        try simp only [hcv, Result.andThen]
        clear hcv
        (try go_wp2_with fail)
        refine hK.out _ _ (M1.out) (fun hHeld => ?_)
        clear hK K hOld
        try simp only [Act.put, List.setIfInBounds_toArray, List.set_cons_zero, List.set_cons_succ]
        refine wpAnyH_ready (rs := [11, 16]) (by kernel_rfl) (by simp) (AllReadyH.cons (o := { dst := some 21, op := Op.call { callee := Callee.value (Operand.func 13), args := #[Operand.tmp 20, Operand.const (Value.int IntKind.i64 32)], argTypes := #[9, 3] }, type := 9, pos := "law.go:42", after := #[{ on := 10, ground := Ground.data }], guard := none }) rfl (fun K hK => ?_) (AllReadyH.cons (o := { dst := some 7, op := Op.alloc 41, type := 0, pos := "law.go:42", after := #[], guard := none }) rfl (fun K hK => ?_) AllReadyH.nil))
        · have hOld := hide hHeld
          clear hHeld
          go_simp
          refine (HFU.out _).mono ?_
          rintro e v2 ⟨rfl, hb⟩
          have X2 := hide (X1.out.below hb)
          have M2 := hide ((hb.block _ (heap_lt M1.out)).trans M1.out)
          have BB2 := hide (BB1.out.trans (TurnM.of_below hb X1.out.size))
          clear hb
          (try go_wp2_with fail)
          refine hK.out _ _ (M2.out) (fun hHeld => ?_)
          clear hK K hOld
          try simp only [Act.put, List.setIfInBounds_toArray, List.set_cons_zero, List.set_cons_succ]
          refine wpAnyH_ready (rs := [12, 16]) (by kernel_rfl) (by simp) (AllReadyH.cons (o := { dst := some 22, op := Op.call { callee := Callee.value (Operand.func 30), args := #[Operand.tmp 11, Operand.tmp 14, Operand.tmp 21], argTypes := #[26, 47, 9] }, type := 82, pos := "law.go:42", after := #[{ on := 1, ground := Ground.data }, { on := 4, ground := Ground.data }, { on := 11, ground := Ground.data }, { on := 11, ground := Ground.chain }], guard := none }) rfl (fun K hK => ?_) (AllReadyH.cons (o := { dst := some 7, op := Op.alloc 41, type := 0, pos := "law.go:42", after := #[], guard := none }) rfl (fun K hK => ?_) AllReadyH.nil))
          · have hOld := hide hHeld
            clear hHeld
            go_simp
            refine (HPU.out _ X2.out).mono ?_
            rintro e v3 ⟨Y, k, j, rfl, hp, hs, hb⟩
            have HP := hide hp
            have X3 := hide hs
            have M3 := hide (hb.2.cells M2.out (by decide))
            have BB3 := hide (BB2.out.trans (TurnM.of_turnB hb))
            clear hp hs hb
            (try go_wp2_with fail)
            refine hK.out _ _ (M3.out) (fun hHeld => ?_)
            clear hK K hOld
            try simp only [Act.put, List.setIfInBounds_toArray, List.set_cons_zero, List.set_cons_succ]
            refine wpAnyH_take (i := 13) (oi := { dst := some 9, op := Op.move (Operand.tmp 22), type := 82, pos := "law.go:42", after := #[{ on := 12, ground := Ground.data }], guard := none }) (v := ?_) rfl (by kernel_rfl) (by kernel_rfl) (by kernel_rfl) (fun _ _ _ h => h) (Or.inl ⟨by kernel_rfl, ?_⟩) hHeld ?_
            rotate_left
            · (intro w hSw; (try dsimp only at hSw); have m0 := cell_of_block hSw 0; have m1 := cell_of_block hSw 1; have m2 := cell_of_block hSw 2; have m3 := cell_of_block hSw 3; go_simp); try with_reducible rfl
            try simp only [Act.put, List.setIfInBounds_toArray, List.set_cons_zero, List.set_cons_succ]
            refine wpAnyH_take (i := 14) (oi := { dst := some 23, op := Op.extract (Operand.tmp 9) 0, type := 41, pos := "law.go:42", after := #[{ on := 13, ground := Ground.data }], guard := none }) (v := ?_) rfl (by kernel_rfl) (by kernel_rfl) (by kernel_rfl) (fun _ _ _ h => h) (Or.inl ⟨by kernel_rfl, ?_⟩) hHeld ?_
            rotate_left
            · (intro w hSw; (try dsimp only at hSw); have m0 := cell_of_block hSw 0; have m1 := cell_of_block hSw 1; have m2 := cell_of_block hSw 2; have m3 := cell_of_block hSw 3; go_simp); try with_reducible rfl
            try simp only [Act.put, List.setIfInBounds_toArray, List.set_cons_zero, List.set_cons_succ]
            refine wpAnyH_take (i := 15) (oi := { dst := some 24, op := Op.extract (Operand.tmp 9) 1, type := 35, pos := "law.go:42", after := #[{ on := 13, ground := Ground.data }, { on := 17, ground := Ground.gcOnly Departure.lateStores }], guard := none }) (v := ?_) rfl (by kernel_rfl) (by kernel_rfl) (by kernel_rfl) (fun _ _ _ h => h) (Or.inl ⟨by kernel_rfl, ?_⟩) hHeld ?_
            rotate_left
            · (intro w hSw; (try dsimp only at hSw); have m0 := cell_of_block hSw 0; have m1 := cell_of_block hSw 1; have m2 := cell_of_block hSw 2; have m3 := cell_of_block hSw 3; go_simp); try with_reducible rfl
            try simp only [Act.put, List.setIfInBounds_toArray, List.set_cons_zero, List.set_cons_succ]
            refine wpAnyH_ready (rs := [16]) (by kernel_rfl) (by simp) (AllReadyH.cons (o := { dst := some 7, op := Op.alloc 41, type := 0, pos := "law.go:42", after := #[], guard := none }) rfl (fun K hK => ?_) AllReadyH.nil)
            have hOld := hide hHeld
            clear hHeld
            go_simp
            have hal := (Below.refl v3.heap.size v3).alloc (Nat.le_refl _) (.cells #[.int .i64 0, .int .i64 0] 41)
            have A4 := hide (heap_new v3 (.cells #[.int .i64 0, .int .i64 0] 41))
            have X4 := hide (X3.out.below hal)
            have M4 := hide ((hal.block _ (heap_lt M3.out)).trans M3.out)
            have BB4 := hide (BB3.out.trans (TurnM.of_below hal X3.out.size))
            have HAB := hide (show w.heap.size ≤ v3.heap.size from BB3.out.1.size)
            clear hal
            generalize v3.alloc (.cells #[.int .i64 0, .int .i64 0] 41) = v4 at *
            generalize v3.heap.size = ab at *
            (try go_wp2_with fail)
            refine hK.out _ _ (M4.out) (fun hHeld => ?_)
            clear hK K hOld
            try simp only [Act.put, List.setIfInBounds_toArray, List.set_cons_zero, List.set_cons_succ]
            refine wpAnyH_ready (rs := [17]) (by kernel_rfl) (by simp) (AllReadyH.cons (o := { dst := none, op := Op.store 41 (Operand.tmp 7) (Operand.tmp 23), type := 0, pos := "law.go:42", after := #[{ on := 16, ground := Ground.data }, { on := 14, ground := Ground.data }, { on := 12, ground := Ground.chain }, { on := 0, ground := Ground.phase }, { on := 1, ground := Ground.phase }, { on := 2, ground := Ground.phase }, { on := 3, ground := Ground.phase }, { on := 4, ground := Ground.phase }, { on := 5, ground := Ground.phase }, { on := 6, ground := Ground.phase }, { on := 7, ground := Ground.phase }, { on := 8, ground := Ground.phase }, { on := 9, ground := Ground.phase }, { on := 10, ground := Ground.phase }, { on := 11, ground := Ground.phase }, { on := 12, ground := Ground.phase }, { on := 13, ground := Ground.phase }, { on := 14, ground := Ground.phase }, { on := 15, ground := Ground.textOnly Departure.lateStores }, { on := 16, ground := Ground.phase }], guard := none }) rfl (fun K hK => ?_) AllReadyH.nil)
            have hOld := hide hHeld
            clear hHeld
            refine rw_storeO 41 (.tmp 7) (.tmp 23) rfl ab rfl #[.int .i64 (k : Int), .int .i64 (j : Int)] rfl _ A4.out (by kernel_rfl) rfl (by simp [Value.oneCell']) ?_
            have KF := setRow_keeps (Ts := [41]) A4.out (by decide) (#[.int .i64 (k : Int), .int .i64 (j : Int)] : Array Value)
            have A5 := hide (setRow_same (cs := (#[.int .i64 (k : Int), .int .i64 (j : Int)] : Array Value)) A4.out)
            have X5 := hide (X4.out.keepsT KF (by decide) (by decide) (by decide) (by decide) (by decide) (by decide) (by decide) (by decide) (by decide) (by decide) (by decide))
            have M5 := hide (KF.cells M4.out (by decide))
            have BB5 := hide (TurnM.new BB4.out HAB.out HSZ.out (#[.int .i64 (k : Int), .int .i64 (j : Int)] : Array Value))
            clear KF
            generalize v4.setRow ab (#[.int .i64 (k : Int), .int .i64 (j : Int)] : Array Value) = v5 at *
            refine hK.out _ _ (M5.out) (fun hHeld => ?_)
            clear hK K hOld
            try simp only [Act.put, List.setIfInBounds_toArray, List.set_cons_zero, List.set_cons_succ]
            refine wpAnyH_take (i := 18) (oi := { dst := some 8, op := Op.assign (Operand.tmp 24), type := 35, pos := "law.go:42", after := #[{ on := 15, ground := Ground.data }, { on := 17, ground := Ground.chain }, { on := 0, ground := Ground.phase }, { on := 1, ground := Ground.phase }, { on := 2, ground := Ground.phase }, { on := 3, ground := Ground.phase }, { on := 4, ground := Ground.phase }, { on := 5, ground := Ground.phase }, { on := 6, ground := Ground.phase }, { on := 7, ground := Ground.phase }, { on := 8, ground := Ground.phase }, { on := 9, ground := Ground.phase }, { on := 10, ground := Ground.phase }, { on := 11, ground := Ground.phase }, { on := 12, ground := Ground.phase }, { on := 13, ground := Ground.phase }, { on := 14, ground := Ground.phase }, { on := 15, ground := Ground.phase }, { on := 16, ground := Ground.phase }, { on := 17, ground := Ground.phase }], guard := none }) (v := ?_) rfl (by kernel_rfl) (by kernel_rfl) (by kernel_rfl) (fun _ _ _ h => h) (Or.inl ⟨by kernel_rfl, ?_⟩) hHeld ?_
            rotate_left
            · (intro w hSw; (try dsimp only at hSw); have m0 := cell_of_block hSw 0; have m1 := cell_of_block hSw 1; have m2 := cell_of_block hSw 2; have m3 := cell_of_block hSw 3; go_simp); try with_reducible rfl
            try simp only [Act.put, List.setIfInBounds_toArray, List.set_cons_zero, List.set_cons_succ]
            refine wpAnyH_done (by kernel_rfl) ?_ _
            clear hHeld
            go_wp2_with fail
            go_meet
            exact ⟨ab, k, j, Y, rfl, rfl, HP.out, X5.out, A5.out, M5.out, BB5.out⟩
          · have hOld := hide hHeld
            clear hHeld
            go_simp
            have hal := (Below.refl v2.heap.size v2).alloc (Nat.le_refl _) (.cells #[.int .i64 0, .int .i64 0] 41)
            have A3 := hide (heap_new v2 (.cells #[.int .i64 0, .int .i64 0] 41))
            have X3 := hide (X2.out.below hal)
            have M3 := hide ((hal.block _ (heap_lt M2.out)).trans M2.out)
            have BB3 := hide (BB2.out.trans (TurnM.of_below hal X2.out.size))
            have HAB := hide (show w.heap.size ≤ v2.heap.size from BB2.out.1.size)
            clear hal
            generalize v2.alloc (.cells #[.int .i64 0, .int .i64 0] 41) = v3 at *
            generalize v2.heap.size = ab at *
            (try go_wp2_with fail)
            refine hK.out _ _ (M3.out) (fun hHeld => ?_)
            clear hK K hOld
            try simp only [Act.put, List.setIfInBounds_toArray, List.set_cons_zero, List.set_cons_succ]
            refine wpAnyH_ready (rs := [12]) (by kernel_rfl) (by simp) (AllReadyH.cons (o := { dst := some 22, op := Op.call { callee := Callee.value (Operand.func 30), args := #[Operand.tmp 11, Operand.tmp 14, Operand.tmp 21], argTypes := #[26, 47, 9] }, type := 82, pos := "law.go:42", after := #[{ on := 1, ground := Ground.data }, { on := 4, ground := Ground.data }, { on := 11, ground := Ground.data }, { on := 11, ground := Ground.chain }], guard := none }) rfl (fun K hK => ?_) AllReadyH.nil)
            have hOld := hide hHeld
            clear hHeld
            go_simp
            refine (HPU.out _ X3.out).mono ?_
            rintro e v4 ⟨Y, k, j, rfl, hp, hs, hb⟩
            have HP := hide hp
            have X4 := hide hs
            have M4 := hide (hb.2.cells M3.out (by decide))
            have A4 := hide (hb.2.cells A3.out (by decide))
            have BB4 := hide (BB3.out.trans (TurnM.of_turnB hb))
            clear hp hs hb
            (try go_wp2_with fail)
            refine hK.out _ _ (M4.out) (fun hHeld => ?_)
            clear hK K hOld
            try simp only [Act.put, List.setIfInBounds_toArray, List.set_cons_zero, List.set_cons_succ]
            refine wpAnyH_take (i := 13) (oi := { dst := some 9, op := Op.move (Operand.tmp 22), type := 82, pos := "law.go:42", after := #[{ on := 12, ground := Ground.data }], guard := none }) (v := ?_) rfl (by kernel_rfl) (by kernel_rfl) (by kernel_rfl) (fun _ _ _ h => h) (Or.inl ⟨by kernel_rfl, ?_⟩) hHeld ?_
            rotate_left
            · (intro w hSw; (try dsimp only at hSw); have m0 := cell_of_block hSw 0; have m1 := cell_of_block hSw 1; have m2 := cell_of_block hSw 2; have m3 := cell_of_block hSw 3; go_simp); try with_reducible rfl
            try simp only [Act.put, List.setIfInBounds_toArray, List.set_cons_zero, List.set_cons_succ]
            refine wpAnyH_take (i := 14) (oi := { dst := some 23, op := Op.extract (Operand.tmp 9) 0, type := 41, pos := "law.go:42", after := #[{ on := 13, ground := Ground.data }], guard := none }) (v := ?_) rfl (by kernel_rfl) (by kernel_rfl) (by kernel_rfl) (fun _ _ _ h => h) (Or.inl ⟨by kernel_rfl, ?_⟩) hHeld ?_
            rotate_left
            · (intro w hSw; (try dsimp only at hSw); have m0 := cell_of_block hSw 0; have m1 := cell_of_block hSw 1; have m2 := cell_of_block hSw 2; have m3 := cell_of_block hSw 3; go_simp); try with_reducible rfl
            try simp only [Act.put, List.setIfInBounds_toArray, List.set_cons_zero, List.set_cons_succ]
            refine wpAnyH_take (i := 15) (oi := { dst := some 24, op := Op.extract (Operand.tmp 9) 1, type := 35, pos := "law.go:42", after := #[{ on := 13, ground := Ground.data }, { on := 17, ground := Ground.gcOnly Departure.lateStores }], guard := none }) (v := ?_) rfl (by kernel_rfl) (by kernel_rfl) (by kernel_rfl) (fun _ _ _ h => h) (Or.inl ⟨by kernel_rfl, ?_⟩) hHeld ?_
            rotate_left
            · (intro w hSw; (try dsimp only at hSw); have m0 := cell_of_block hSw 0; have m1 := cell_of_block hSw 1; have m2 := cell_of_block hSw 2; have m3 := cell_of_block hSw 3; go_simp); try with_reducible rfl
            try simp only [Act.put, List.setIfInBounds_toArray, List.set_cons_zero, List.set_cons_succ]
            refine wpAnyH_ready (rs := [17]) (by kernel_rfl) (by simp) (AllReadyH.cons (o := { dst := none, op := Op.store 41 (Operand.tmp 7) (Operand.tmp 23), type := 0, pos := "law.go:42", after := #[{ on := 16, ground := Ground.data }, { on := 14, ground := Ground.data }, { on := 12, ground := Ground.chain }, { on := 0, ground := Ground.phase }, { on := 1, ground := Ground.phase }, { on := 2, ground := Ground.phase }, { on := 3, ground := Ground.phase }, { on := 4, ground := Ground.phase }, { on := 5, ground := Ground.phase }, { on := 6, ground := Ground.phase }, { on := 7, ground := Ground.phase }, { on := 8, ground := Ground.phase }, { on := 9, ground := Ground.phase }, { on := 10, ground := Ground.phase }, { on := 11, ground := Ground.phase }, { on := 12, ground := Ground.phase }, { on := 13, ground := Ground.phase }, { on := 14, ground := Ground.phase }, { on := 15, ground := Ground.textOnly Departure.lateStores }, { on := 16, ground := Ground.phase }], guard := none }) rfl (fun K hK => ?_) AllReadyH.nil)
            have hOld := hide hHeld
            clear hHeld
            refine rw_storeO 41 (.tmp 7) (.tmp 23) rfl ab rfl #[.int .i64 (k : Int), .int .i64 (j : Int)] rfl _ A4.out (by kernel_rfl) rfl (by simp [Value.oneCell']) ?_
            have KF := setRow_keeps (Ts := [41]) A4.out (by decide) (#[.int .i64 (k : Int), .int .i64 (j : Int)] : Array Value)
            have A5 := hide (setRow_same (cs := (#[.int .i64 (k : Int), .int .i64 (j : Int)] : Array Value)) A4.out)
            have X5 := hide (X4.out.keepsT KF (by decide) (by decide) (by decide) (by decide) (by decide) (by decide) (by decide) (by decide) (by decide) (by decide) (by decide))
            have M5 := hide (KF.cells M4.out (by decide))
            have BB5 := hide (TurnM.new BB4.out HAB.out HSZ.out (#[.int .i64 (k : Int), .int .i64 (j : Int)] : Array Value))
            clear KF
            generalize v4.setRow ab (#[.int .i64 (k : Int), .int .i64 (j : Int)] : Array Value) = v5 at *
            refine hK.out _ _ (M5.out) (fun hHeld => ?_)
            clear hK K hOld
            try simp only [Act.put, List.setIfInBounds_toArray, List.set_cons_zero, List.set_cons_succ]
            refine wpAnyH_take (i := 18) (oi := { dst := some 8, op := Op.assign (Operand.tmp 24), type := 35, pos := "law.go:42", after := #[{ on := 15, ground := Ground.data }, { on := 17, ground := Ground.chain }, { on := 0, ground := Ground.phase }, { on := 1, ground := Ground.phase }, { on := 2, ground := Ground.phase }, { on := 3, ground := Ground.phase }, { on := 4, ground := Ground.phase }, { on := 5, ground := Ground.phase }, { on := 6, ground := Ground.phase }, { on := 7, ground := Ground.phase }, { on := 8, ground := Ground.phase }, { on := 9, ground := Ground.phase }, { on := 10, ground := Ground.phase }, { on := 11, ground := Ground.phase }, { on := 12, ground := Ground.phase }, { on := 13, ground := Ground.phase }, { on := 14, ground := Ground.phase }, { on := 15, ground := Ground.phase }, { on := 16, ground := Ground.phase }, { on := 17, ground := Ground.phase }], guard := none }) (v := ?_) rfl (by kernel_rfl) (by kernel_rfl) (by kernel_rfl) (fun _ _ _ h => h) (Or.inl ⟨by kernel_rfl, ?_⟩) hHeld ?_
            rotate_left
            · (intro w hSw; (try dsimp only at hSw); have m0 := cell_of_block hSw 0; have m1 := cell_of_block hSw 1; have m2 := cell_of_block hSw 2; have m3 := cell_of_block hSw 3; go_simp); try with_reducible rfl
            try simp only [Act.put, List.setIfInBounds_toArray, List.set_cons_zero, List.set_cons_succ]
            refine wpAnyH_done (by kernel_rfl) ?_ _
            clear hHeld
            go_wp2_with fail
            go_meet
            exact ⟨ab, k, j, Y, rfl, rfl, HP.out, X5.out, A5.out, M5.out, BB5.out⟩
        · have hOld := hide hHeld
          clear hHeld
          go_simp
          have hal := (Below.refl v1.heap.size v1).alloc (Nat.le_refl _) (.cells #[.int .i64 0, .int .i64 0] 41)
          have A2 := hide (heap_new v1 (.cells #[.int .i64 0, .int .i64 0] 41))
          have X2 := hide (X1.out.below hal)
          have M2 := hide ((hal.block _ (heap_lt M1.out)).trans M1.out)
          have BB2 := hide (BB1.out.trans (TurnM.of_below hal X1.out.size))
          have HAB := hide (show w.heap.size ≤ v1.heap.size from BB1.out.1.size)
          clear hal
          generalize v1.alloc (.cells #[.int .i64 0, .int .i64 0] 41) = v2 at *
          generalize v1.heap.size = ab at *
          (try go_wp2_with fail)
          refine hK.out _ _ (M2.out) (fun hHeld => ?_)
          clear hK K hOld
          try simp only [Act.put, List.setIfInBounds_toArray, List.set_cons_zero, List.set_cons_succ]
          refine wpAnyH_ready (rs := [11]) (by kernel_rfl) (by simp) (AllReadyH.cons (o := { dst := some 21, op := Op.call { callee := Callee.value (Operand.func 13), args := #[Operand.tmp 20, Operand.const (Value.int IntKind.i64 32)], argTypes := #[9, 3] }, type := 9, pos := "law.go:42", after := #[{ on := 10, ground := Ground.data }], guard := none }) rfl (fun K hK => ?_) AllReadyH.nil)
          have hOld := hide hHeld
          clear hHeld
          go_simp
          refine (HFU.out _).mono ?_
          rintro e v3 ⟨rfl, hb⟩
          have X3 := hide (X2.out.below hb)
          have M3 := hide ((hb.block _ (heap_lt M2.out)).trans M2.out)
          have A3 := hide ((hb.block _ (heap_lt A2.out)).trans A2.out)
          have BB3 := hide (BB2.out.trans (TurnM.of_below hb X2.out.size))
          clear hb
          (try go_wp2_with fail)
          refine hK.out _ _ (M3.out) (fun hHeld => ?_)
          clear hK K hOld
          try simp only [Act.put, List.setIfInBounds_toArray, List.set_cons_zero, List.set_cons_succ]
          refine wpAnyH_ready (rs := [12]) (by kernel_rfl) (by simp) (AllReadyH.cons (o := { dst := some 22, op := Op.call { callee := Callee.value (Operand.func 30), args := #[Operand.tmp 11, Operand.tmp 14, Operand.tmp 21], argTypes := #[26, 47, 9] }, type := 82, pos := "law.go:42", after := #[{ on := 1, ground := Ground.data }, { on := 4, ground := Ground.data }, { on := 11, ground := Ground.data }, { on := 11, ground := Ground.chain }], guard := none }) rfl (fun K hK => ?_) AllReadyH.nil)
          have hOld := hide hHeld
          clear hHeld
          go_simp
          refine (HPU.out _ X3.out).mono ?_
          rintro e v4 ⟨Y, k, j, rfl, hp, hs, hb⟩
          have HP := hide hp
          have X4 := hide hs
          have M4 := hide (hb.2.cells M3.out (by decide))
          have A4 := hide (hb.2.cells A3.out (by decide))
          have BB4 := hide (BB3.out.trans (TurnM.of_turnB hb))
          clear hp hs hb
          (try go_wp2_with fail)
          refine hK.out _ _ (M4.out) (fun hHeld => ?_)
          clear hK K hOld
          try simp only [Act.put, List.setIfInBounds_toArray, List.set_cons_zero, List.set_cons_succ]
          refine wpAnyH_take (i := 13) (oi := { dst := some 9, op := Op.move (Operand.tmp 22), type := 82, pos := "law.go:42", after := #[{ on := 12, ground := Ground.data }], guard := none }) (v := ?_) rfl (by kernel_rfl) (by kernel_rfl) (by kernel_rfl) (fun _ _ _ h => h) (Or.inl ⟨by kernel_rfl, ?_⟩) hHeld ?_
          rotate_left
          · (intro w hSw; (try dsimp only at hSw); have m0 := cell_of_block hSw 0; have m1 := cell_of_block hSw 1; have m2 := cell_of_block hSw 2; have m3 := cell_of_block hSw 3; go_simp); try with_reducible rfl
          try simp only [Act.put, List.setIfInBounds_toArray, List.set_cons_zero, List.set_cons_succ]
          refine wpAnyH_take (i := 14) (oi := { dst := some 23, op := Op.extract (Operand.tmp 9) 0, type := 41, pos := "law.go:42", after := #[{ on := 13, ground := Ground.data }], guard := none }) (v := ?_) rfl (by kernel_rfl) (by kernel_rfl) (by kernel_rfl) (fun _ _ _ h => h) (Or.inl ⟨by kernel_rfl, ?_⟩) hHeld ?_
          rotate_left
          · (intro w hSw; (try dsimp only at hSw); have m0 := cell_of_block hSw 0; have m1 := cell_of_block hSw 1; have m2 := cell_of_block hSw 2; have m3 := cell_of_block hSw 3; go_simp); try with_reducible rfl
          try simp only [Act.put, List.setIfInBounds_toArray, List.set_cons_zero, List.set_cons_succ]
          refine wpAnyH_take (i := 15) (oi := { dst := some 24, op := Op.extract (Operand.tmp 9) 1, type := 35, pos := "law.go:42", after := #[{ on := 13, ground := Ground.data }, { on := 17, ground := Ground.gcOnly Departure.lateStores }], guard := none }) (v := ?_) rfl (by kernel_rfl) (by kernel_rfl) (by kernel_rfl) (fun _ _ _ h => h) (Or.inl ⟨by kernel_rfl, ?_⟩) hHeld ?_
          rotate_left
          · (intro w hSw; (try dsimp only at hSw); have m0 := cell_of_block hSw 0; have m1 := cell_of_block hSw 1; have m2 := cell_of_block hSw 2; have m3 := cell_of_block hSw 3; go_simp); try with_reducible rfl
          try simp only [Act.put, List.setIfInBounds_toArray, List.set_cons_zero, List.set_cons_succ]
          refine wpAnyH_ready (rs := [17]) (by kernel_rfl) (by simp) (AllReadyH.cons (o := { dst := none, op := Op.store 41 (Operand.tmp 7) (Operand.tmp 23), type := 0, pos := "law.go:42", after := #[{ on := 16, ground := Ground.data }, { on := 14, ground := Ground.data }, { on := 12, ground := Ground.chain }, { on := 0, ground := Ground.phase }, { on := 1, ground := Ground.phase }, { on := 2, ground := Ground.phase }, { on := 3, ground := Ground.phase }, { on := 4, ground := Ground.phase }, { on := 5, ground := Ground.phase }, { on := 6, ground := Ground.phase }, { on := 7, ground := Ground.phase }, { on := 8, ground := Ground.phase }, { on := 9, ground := Ground.phase }, { on := 10, ground := Ground.phase }, { on := 11, ground := Ground.phase }, { on := 12, ground := Ground.phase }, { on := 13, ground := Ground.phase }, { on := 14, ground := Ground.phase }, { on := 15, ground := Ground.textOnly Departure.lateStores }, { on := 16, ground := Ground.phase }], guard := none }) rfl (fun K hK => ?_) AllReadyH.nil)
          have hOld := hide hHeld
          clear hHeld
          refine rw_storeO 41 (.tmp 7) (.tmp 23) rfl ab rfl #[.int .i64 (k : Int), .int .i64 (j : Int)] rfl _ A4.out (by kernel_rfl) rfl (by simp [Value.oneCell']) ?_
          have KF := setRow_keeps (Ts := [41]) A4.out (by decide) (#[.int .i64 (k : Int), .int .i64 (j : Int)] : Array Value)
          have A5 := hide (setRow_same (cs := (#[.int .i64 (k : Int), .int .i64 (j : Int)] : Array Value)) A4.out)
          have X5 := hide (X4.out.keepsT KF (by decide) (by decide) (by decide) (by decide) (by decide) (by decide) (by decide) (by decide) (by decide) (by decide) (by decide))
          have M5 := hide (KF.cells M4.out (by decide))
          have BB5 := hide (TurnM.new BB4.out HAB.out HSZ.out (#[.int .i64 (k : Int), .int .i64 (j : Int)] : Array Value))
          clear KF
          generalize v4.setRow ab (#[.int .i64 (k : Int), .int .i64 (j : Int)] : Array Value) = v5 at *
          refine hK.out _ _ (M5.out) (fun hHeld => ?_)
          clear hK K hOld
          try simp only [Act.put, List.setIfInBounds_toArray, List.set_cons_zero, List.set_cons_succ]
          refine wpAnyH_take (i := 18) (oi := { dst := some 8, op := Op.assign (Operand.tmp 24), type := 35, pos := "law.go:42", after := #[{ on := 15, ground := Ground.data }, { on := 17, ground := Ground.chain }, { on := 0, ground := Ground.phase }, { on := 1, ground := Ground.phase }, { on := 2, ground := Ground.phase }, { on := 3, ground := Ground.phase }, { on := 4, ground := Ground.phase }, { on := 5, ground := Ground.phase }, { on := 6, ground := Ground.phase }, { on := 7, ground := Ground.phase }, { on := 8, ground := Ground.phase }, { on := 9, ground := Ground.phase }, { on := 10, ground := Ground.phase }, { on := 11, ground := Ground.phase }, { on := 12, ground := Ground.phase }, { on := 13, ground := Ground.phase }, { on := 14, ground := Ground.phase }, { on := 15, ground := Ground.phase }, { on := 16, ground := Ground.phase }, { on := 17, ground := Ground.phase }], guard := none }) (v := ?_) rfl (by kernel_rfl) (by kernel_rfl) (by kernel_rfl) (fun _ _ _ h => h) (Or.inl ⟨by kernel_rfl, ?_⟩) hHeld ?_
          rotate_left
          · (intro w hSw; (try dsimp only at hSw); have m0 := cell_of_block hSw 0; have m1 := cell_of_block hSw 1; have m2 := cell_of_block hSw 2; have m3 := cell_of_block hSw 3; go_simp); try with_reducible rfl
          try simp only [Act.put, List.setIfInBounds_toArray, List.set_cons_zero, List.set_cons_succ]
          refine wpAnyH_done (by kernel_rfl) ?_ _
          clear hHeld
          go_wp2_with fail
          go_meet
          exact ⟨ab, k, j, Y, rfl, rfl, HP.out, X5.out, A5.out, M5.out, BB5.out⟩
      · have hOld := hide hHeld
        clear hHeld
        go_simp
        have hal := (Below.refl v1.heap.size v1).alloc (Nat.le_refl _) (.cells #[.int .i64 0, .int .i64 0] 41)
        have A2 := hide (heap_new v1 (.cells #[.int .i64 0, .int .i64 0] 41))
        have X2 := hide (X1.out.below hal)
        have M2 := hide ((hal.block _ (heap_lt M1.out)).trans M1.out)
        have N2 := hide ((hal.block _ (heap_lt N1.out)).trans N1.out)
        have BB2 := hide (BB1.out.trans (TurnM.of_below hal X1.out.size))
        have HAB := hide (show w.heap.size ≤ v1.heap.size from BB1.out.1.size)
        clear hal
        generalize v1.alloc (.cells #[.int .i64 0, .int .i64 0] 41) = v2 at *
        generalize v1.heap.size = ab at *
        (try go_wp2_with fail)
        refine hK.out _ _ (M2.out) (fun hHeld => ?_)
        clear hK K hOld
        try simp only [Act.put, List.setIfInBounds_toArray, List.set_cons_zero, List.set_cons_succ]
        refine wpAnyH_ready (rs := [10]) (by kernel_rfl) (by simp) (AllReadyH.cons (o := { dst := some 20, op := Op.convert 22 9 (Operand.tmp 19), type := 9, pos := "law.go:42", after := #[{ on := 9, ground := Ground.data }], guard := none }) rfl (fun K hK => ?_) AllReadyH.nil)
        have hOld := hide hHeld
        clear hHeld
        go_simp
        have hcv := byte_text2 v2 nb l s8 HX8.out.1 HX8.out.2 N2.out
        try simp only [hcv, Result.andThen]
        clear hcv
        (try go_wp2_with fail)
        refine hK.out _ _ (M2.out) (fun hHeld => ?_)
        clear hK K hOld
        try simp only [Act.put, List.setIfInBounds_toArray, List.set_cons_zero, List.set_cons_succ]
        refine wpAnyH_ready (rs := [11]) (by kernel_rfl) (by simp) (AllReadyH.cons (o := { dst := some 21, op := Op.call { callee := Callee.value (Operand.func 13), args := #[Operand.tmp 20, Operand.const (Value.int IntKind.i64 32)], argTypes := #[9, 3] }, type := 9, pos := "law.go:42", after := #[{ on := 10, ground := Ground.data }], guard := none }) rfl (fun K hK => ?_) AllReadyH.nil)
        have hOld := hide hHeld
        clear hHeld
        go_simp
        refine (HFU.out _).mono ?_
        rintro e v3 ⟨rfl, hb⟩
        have X3 := hide (X2.out.below hb)
        have M3 := hide ((hb.block _ (heap_lt M2.out)).trans M2.out)
        have A3 := hide ((hb.block _ (heap_lt A2.out)).trans A2.out)
        have BB3 := hide (BB2.out.trans (TurnM.of_below hb X2.out.size))
        clear hb
        (try go_wp2_with fail)
        refine hK.out _ _ (M3.out) (fun hHeld => ?_)
        clear hK K hOld
        try simp only [Act.put, List.setIfInBounds_toArray, List.set_cons_zero, List.set_cons_succ]
        refine wpAnyH_ready (rs := [12]) (by kernel_rfl) (by simp) (AllReadyH.cons (o := { dst := some 22, op := Op.call { callee := Callee.value (Operand.func 30), args := #[Operand.tmp 11, Operand.tmp 14, Operand.tmp 21], argTypes := #[26, 47, 9] }, type := 82, pos := "law.go:42", after := #[{ on := 1, ground := Ground.data }, { on := 4, ground := Ground.data }, { on := 11, ground := Ground.data }, { on := 11, ground := Ground.chain }], guard := none }) rfl (fun K hK => ?_) AllReadyH.nil)
        have hOld := hide hHeld
        clear hHeld
        go_simp
        refine (HPU.out _ X3.out).mono ?_
        rintro e v4 ⟨Y, k, j, rfl, hp, hs, hb⟩
        have HP := hide hp
        have X4 := hide hs
        have M4 := hide (hb.2.cells M3.out (by decide))
        have A4 := hide (hb.2.cells A3.out (by decide))
        have BB4 := hide (BB3.out.trans (TurnM.of_turnB hb))
        clear hp hs hb
        (try go_wp2_with fail)
        refine hK.out _ _ (M4.out) (fun hHeld => ?_)
        clear hK K hOld
        try simp only [Act.put, List.setIfInBounds_toArray, List.set_cons_zero, List.set_cons_succ]
        refine wpAnyH_take (i := 13) (oi := { dst := some 9, op := Op.move (Operand.tmp 22), type := 82, pos := "law.go:42", after := #[{ on := 12, ground := Ground.data }], guard := none }) (v := ?_) rfl (by kernel_rfl) (by kernel_rfl) (by kernel_rfl) (fun _ _ _ h => h) (Or.inl ⟨by kernel_rfl, ?_⟩) hHeld ?_
        rotate_left
        · (intro w hSw; (try dsimp only at hSw); have m0 := cell_of_block hSw 0; have m1 := cell_of_block hSw 1; have m2 := cell_of_block hSw 2; have m3 := cell_of_block hSw 3; go_simp); try with_reducible rfl
        try simp only [Act.put, List.setIfInBounds_toArray, List.set_cons_zero, List.set_cons_succ]
        refine wpAnyH_take (i := 14) (oi := { dst := some 23, op := Op.extract (Operand.tmp 9) 0, type := 41, pos := "law.go:42", after := #[{ on := 13, ground := Ground.data }], guard := none }) (v := ?_) rfl (by kernel_rfl) (by kernel_rfl) (by kernel_rfl) (fun _ _ _ h => h) (Or.inl ⟨by kernel_rfl, ?_⟩) hHeld ?_
        rotate_left
        · (intro w hSw; (try dsimp only at hSw); have m0 := cell_of_block hSw 0; have m1 := cell_of_block hSw 1; have m2 := cell_of_block hSw 2; have m3 := cell_of_block hSw 3; go_simp); try with_reducible rfl
        try simp only [Act.put, List.setIfInBounds_toArray, List.set_cons_zero, List.set_cons_succ]
        refine wpAnyH_take (i := 15) (oi := { dst := some 24, op := Op.extract (Operand.tmp 9) 1, type := 35, pos := "law.go:42", after := #[{ on := 13, ground := Ground.data }, { on := 17, ground := Ground.gcOnly Departure.lateStores }], guard := none }) (v := ?_) rfl (by kernel_rfl) (by kernel_rfl) (by kernel_rfl) (fun _ _ _ h => h) (Or.inl ⟨by kernel_rfl, ?_⟩) hHeld ?_
        rotate_left
        · (intro w hSw; (try dsimp only at hSw); have m0 := cell_of_block hSw 0; have m1 := cell_of_block hSw 1; have m2 := cell_of_block hSw 2; have m3 := cell_of_block hSw 3; go_simp); try with_reducible rfl
        try simp only [Act.put, List.setIfInBounds_toArray, List.set_cons_zero, List.set_cons_succ]
        refine wpAnyH_ready (rs := [17]) (by kernel_rfl) (by simp) (AllReadyH.cons (o := { dst := none, op := Op.store 41 (Operand.tmp 7) (Operand.tmp 23), type := 0, pos := "law.go:42", after := #[{ on := 16, ground := Ground.data }, { on := 14, ground := Ground.data }, { on := 12, ground := Ground.chain }, { on := 0, ground := Ground.phase }, { on := 1, ground := Ground.phase }, { on := 2, ground := Ground.phase }, { on := 3, ground := Ground.phase }, { on := 4, ground := Ground.phase }, { on := 5, ground := Ground.phase }, { on := 6, ground := Ground.phase }, { on := 7, ground := Ground.phase }, { on := 8, ground := Ground.phase }, { on := 9, ground := Ground.phase }, { on := 10, ground := Ground.phase }, { on := 11, ground := Ground.phase }, { on := 12, ground := Ground.phase }, { on := 13, ground := Ground.phase }, { on := 14, ground := Ground.phase }, { on := 15, ground := Ground.textOnly Departure.lateStores }, { on := 16, ground := Ground.phase }], guard := none }) rfl (fun K hK => ?_) AllReadyH.nil)
        have hOld := hide hHeld
        clear hHeld
        refine rw_storeO 41 (.tmp 7) (.tmp 23) rfl ab rfl #[.int .i64 (k : Int), .int .i64 (j : Int)] rfl _ A4.out (by kernel_rfl) rfl (by simp [Value.oneCell']) ?_
        have KF := setRow_keeps (Ts := [41]) A4.out (by decide) (#[.int .i64 (k : Int), .int .i64 (j : Int)] : Array Value)
        have A5 := hide (setRow_same (cs := (#[.int .i64 (k : Int), .int .i64 (j : Int)] : Array Value)) A4.out)
        have X5 := hide (X4.out.keepsT KF (by decide) (by decide) (by decide) (by decide) (by decide) (by decide) (by decide) (by decide) (by decide) (by decide) (by decide))
        have M5 := hide (KF.cells M4.out (by decide))
        have BB5 := hide (TurnM.new BB4.out HAB.out HSZ.out (#[.int .i64 (k : Int), .int .i64 (j : Int)] : Array Value))
        clear KF
        generalize v4.setRow ab (#[.int .i64 (k : Int), .int .i64 (j : Int)] : Array Value) = v5 at *
        refine hK.out _ _ (M5.out) (fun hHeld => ?_)
        clear hK K hOld
        try simp only [Act.put, List.setIfInBounds_toArray, List.set_cons_zero, List.set_cons_succ]
        refine wpAnyH_take (i := 18) (oi := { dst := some 8, op := Op.assign (Operand.tmp 24), type := 35, pos := "law.go:42", after := #[{ on := 15, ground := Ground.data }, { on := 17, ground := Ground.chain }, { on := 0, ground := Ground.phase }, { on := 1, ground := Ground.phase }, { on := 2, ground := Ground.phase }, { on := 3, ground := Ground.phase }, { on := 4, ground := Ground.phase }, { on := 5, ground := Ground.phase }, { on := 6, ground := Ground.phase }, { on := 7, ground := Ground.phase }, { on := 8, ground := Ground.phase }, { on := 9, ground := Ground.phase }, { on := 10, ground := Ground.phase }, { on := 11, ground := Ground.phase }, { on := 12, ground := Ground.phase }, { on := 13, ground := Ground.phase }, { on := 14, ground := Ground.phase }, { on := 15, ground := Ground.phase }, { on := 16, ground := Ground.phase }, { on := 17, ground := Ground.phase }], guard := none }) (v := ?_) rfl (by kernel_rfl) (by kernel_rfl) (by kernel_rfl) (fun _ _ _ h => h) (Or.inl ⟨by kernel_rfl, ?_⟩) hHeld ?_
        rotate_left
        · (intro w hSw; (try dsimp only at hSw); have m0 := cell_of_block hSw 0; have m1 := cell_of_block hSw 1; have m2 := cell_of_block hSw 2; have m3 := cell_of_block hSw 3; go_simp); try with_reducible rfl
        try simp only [Act.put, List.setIfInBounds_toArray, List.set_cons_zero, List.set_cons_succ]
        refine wpAnyH_done (by kernel_rfl) ?_ _
        clear hHeld
        go_wp2_with fail
        go_meet
        exact ⟨ab, k, j, Y, rfl, rfl, HP.out, X5.out, A5.out, M5.out, BB5.out⟩
    · have hOld := hide hHeld
      clear hHeld
      go_simp
      have hal := (Below.refl v0.heap.size v0).alloc (Nat.le_refl _) (.cells #[.int .i64 0, .int .i64 0] 41)
      have A1 := hide (heap_new v0 (.cells #[.int .i64 0, .int .i64 0] 41))
      have X1 := hide (X0.out.below hal)
      have M1 := hide ((hal.block _ (heap_lt M0.out)).trans M0.out)
      have BB1 := hide (BB0.out.trans (TurnM.of_below hal X0.out.size))
      have HAB := hide (show w.heap.size ≤ v0.heap.size from BB0.out.1.size)
      clear hal
      generalize v0.alloc (.cells #[.int .i64 0, .int .i64 0] 41) = v1 at *
      generalize v0.heap.size = ab at *
      (try go_wp2_with fail)
      refine hK.out _ _ (M1.out) (fun hHeld => ?_)
      clear hK K hOld
      try simp only [Act.put, List.setIfInBounds_toArray, List.set_cons_zero, List.set_cons_succ]
      refine wpAnyH_ready (rs := [9]) (by kernel_rfl) (by simp) (AllReadyH.cons (o := { dst := some 19, op := Op.buildSlice 22 2 #[(0, Operand.tmp 16), (1, Operand.tmp 18)], type := 22, pos := "law.go:42", after := #[{ on := 6, ground := Ground.data }, { on := 8, ground := Ground.data }], guard := none }) rfl (fun K hK => ?_) AllReadyH.nil)
      have hOld := hide hHeld
      clear hHeld
      go_simp
      try rw [HWB.out.1]
      try rw [HWB.out.2]
      obtain ⟨ob, hob⟩ : ∃ ob, ob = Obj.cells #[.int .u8 (l : Int), .int .u8 (s8 : Int)] 5 := ⟨_, rfl⟩
      try rw [← hob]
      have hal := (Below.refl v1.heap.size v1).alloc (Nat.le_refl _) ob
      have X2 := hide (X1.out.below hal)
      have M2 := hide ((hal.block _ (heap_lt M1.out)).trans M1.out)
      have A2 := hide ((hal.block _ (heap_lt A1.out)).trans A1.out)
      have BB2 := hide (BB1.out.trans (TurnM.of_below hal X1.out.size))
      have hnb := heap_new v1 ob
      clear hal
      generalize v1.alloc ob = v2 at *
      generalize v1.heap.size = nb at *
      rw [hob] at hnb
      have N2 := hide hnb
      clear hob hnb
      (try go_wp2_with fail)
      refine hK.out _ _ (M2.out) (fun hHeld => ?_)
      clear hK K hOld
      try simp only [Act.put, List.setIfInBounds_toArray, List.set_cons_zero, List.set_cons_succ]
      refine wpAnyH_ready (rs := [10]) (by kernel_rfl) (by simp) (AllReadyH.cons (o := { dst := some 20, op := Op.convert 22 9 (Operand.tmp 19), type := 9, pos := "law.go:42", after := #[{ on := 9, ground := Ground.data }], guard := none }) rfl (fun K hK => ?_) AllReadyH.nil)
      have hOld := hide hHeld
      clear hHeld
      go_simp
      have hcv := byte_text2 v2 nb l s8 HX8.out.1 HX8.out.2 N2.out
      try simp only [hcv, Result.andThen]
      clear hcv
      (try go_wp2_with fail)
      refine hK.out _ _ (M2.out) (fun hHeld => ?_)
      clear hK K hOld
      try simp only [Act.put, List.setIfInBounds_toArray, List.set_cons_zero, List.set_cons_succ]
      refine wpAnyH_ready (rs := [11]) (by kernel_rfl) (by simp) (AllReadyH.cons (o := { dst := some 21, op := Op.call { callee := Callee.value (Operand.func 13), args := #[Operand.tmp 20, Operand.const (Value.int IntKind.i64 32)], argTypes := #[9, 3] }, type := 9, pos := "law.go:42", after := #[{ on := 10, ground := Ground.data }], guard := none }) rfl (fun K hK => ?_) AllReadyH.nil)
      have hOld := hide hHeld
      clear hHeld
      go_simp
      refine (HFU.out _).mono ?_
      rintro e v3 ⟨rfl, hb⟩
      have X3 := hide (X2.out.below hb)
      have M3 := hide ((hb.block _ (heap_lt M2.out)).trans M2.out)
      have A3 := hide ((hb.block _ (heap_lt A2.out)).trans A2.out)
      have BB3 := hide (BB2.out.trans (TurnM.of_below hb X2.out.size))
      clear hb
      (try go_wp2_with fail)
      refine hK.out _ _ (M3.out) (fun hHeld => ?_)
      clear hK K hOld
      try simp only [Act.put, List.setIfInBounds_toArray, List.set_cons_zero, List.set_cons_succ]
      refine wpAnyH_ready (rs := [12]) (by kernel_rfl) (by simp) (AllReadyH.cons (o := { dst := some 22, op := Op.call { callee := Callee.value (Operand.func 30), args := #[Operand.tmp 11, Operand.tmp 14, Operand.tmp 21], argTypes := #[26, 47, 9] }, type := 82, pos := "law.go:42", after := #[{ on := 1, ground := Ground.data }, { on := 4, ground := Ground.data }, { on := 11, ground := Ground.data }, { on := 11, ground := Ground.chain }], guard := none }) rfl (fun K hK => ?_) AllReadyH.nil)
      have hOld := hide hHeld
      clear hHeld
      go_simp
      refine (HPU.out _ X3.out).mono ?_
      rintro e v4 ⟨Y, k, j, rfl, hp, hs, hb⟩
      have HP := hide hp
      have X4 := hide hs
      have M4 := hide (hb.2.cells M3.out (by decide))
      have A4 := hide (hb.2.cells A3.out (by decide))
      have BB4 := hide (BB3.out.trans (TurnM.of_turnB hb))
      clear hp hs hb
      (try go_wp2_with fail)
      refine hK.out _ _ (M4.out) (fun hHeld => ?_)
      clear hK K hOld
      try simp only [Act.put, List.setIfInBounds_toArray, List.set_cons_zero, List.set_cons_succ]
      refine wpAnyH_take (i := 13) (oi := { dst := some 9, op := Op.move (Operand.tmp 22), type := 82, pos := "law.go:42", after := #[{ on := 12, ground := Ground.data }], guard := none }) (v := ?_) rfl (by kernel_rfl) (by kernel_rfl) (by kernel_rfl) (fun _ _ _ h => h) (Or.inl ⟨by kernel_rfl, ?_⟩) hHeld ?_
      rotate_left
      · (intro w hSw; (try dsimp only at hSw); have m0 := cell_of_block hSw 0; have m1 := cell_of_block hSw 1; have m2 := cell_of_block hSw 2; have m3 := cell_of_block hSw 3; go_simp); try with_reducible rfl
      try simp only [Act.put, List.setIfInBounds_toArray, List.set_cons_zero, List.set_cons_succ]
      refine wpAnyH_take (i := 14) (oi := { dst := some 23, op := Op.extract (Operand.tmp 9) 0, type := 41, pos := "law.go:42", after := #[{ on := 13, ground := Ground.data }], guard := none }) (v := ?_) rfl (by kernel_rfl) (by kernel_rfl) (by kernel_rfl) (fun _ _ _ h => h) (Or.inl ⟨by kernel_rfl, ?_⟩) hHeld ?_
      rotate_left
      · (intro w hSw; (try dsimp only at hSw); have m0 := cell_of_block hSw 0; have m1 := cell_of_block hSw 1; have m2 := cell_of_block hSw 2; have m3 := cell_of_block hSw 3; go_simp); try with_reducible rfl
      try simp only [Act.put, List.setIfInBounds_toArray, List.set_cons_zero, List.set_cons_succ]
      refine wpAnyH_take (i := 15) (oi := { dst := some 24, op := Op.extract (Operand.tmp 9) 1, type := 35, pos := "law.go:42", after := #[{ on := 13, ground := Ground.data }, { on := 17, ground := Ground.gcOnly Departure.lateStores }], guard := none }) (v := ?_) rfl (by kernel_rfl) (by kernel_rfl) (by kernel_rfl) (fun _ _ _ h => h) (Or.inl ⟨by kernel_rfl, ?_⟩) hHeld ?_
      rotate_left
      · (intro w hSw; (try dsimp only at hSw); have m0 := cell_of_block hSw 0; have m1 := cell_of_block hSw 1; have m2 := cell_of_block hSw 2; have m3 := cell_of_block hSw 3; go_simp); try with_reducible rfl
      try simp only [Act.put, List.setIfInBounds_toArray, List.set_cons_zero, List.set_cons_succ]
      refine wpAnyH_ready (rs := [17]) (by kernel_rfl) (by simp) (AllReadyH.cons (o := { dst := none, op := Op.store 41 (Operand.tmp 7) (Operand.tmp 23), type := 0, pos := "law.go:42", after := #[{ on := 16, ground := Ground.data }, { on := 14, ground := Ground.data }, { on := 12, ground := Ground.chain }, { on := 0, ground := Ground.phase }, { on := 1, ground := Ground.phase }, { on := 2, ground := Ground.phase }, { on := 3, ground := Ground.phase }, { on := 4, ground := Ground.phase }, { on := 5, ground := Ground.phase }, { on := 6, ground := Ground.phase }, { on := 7, ground := Ground.phase }, { on := 8, ground := Ground.phase }, { on := 9, ground := Ground.phase }, { on := 10, ground := Ground.phase }, { on := 11, ground := Ground.phase }, { on := 12, ground := Ground.phase }, { on := 13, ground := Ground.phase }, { on := 14, ground := Ground.phase }, { on := 15, ground := Ground.textOnly Departure.lateStores }, { on := 16, ground := Ground.phase }], guard := none }) rfl (fun K hK => ?_) AllReadyH.nil)
      have hOld := hide hHeld
      clear hHeld
      refine rw_storeO 41 (.tmp 7) (.tmp 23) rfl ab rfl #[.int .i64 (k : Int), .int .i64 (j : Int)] rfl _ A4.out (by kernel_rfl) rfl (by simp [Value.oneCell']) ?_
      have KF := setRow_keeps (Ts := [41]) A4.out (by decide) (#[.int .i64 (k : Int), .int .i64 (j : Int)] : Array Value)
      have A5 := hide (setRow_same (cs := (#[.int .i64 (k : Int), .int .i64 (j : Int)] : Array Value)) A4.out)
      have X5 := hide (X4.out.keepsT KF (by decide) (by decide) (by decide) (by decide) (by decide) (by decide) (by decide) (by decide) (by decide) (by decide) (by decide))
      have M5 := hide (KF.cells M4.out (by decide))
      have BB5 := hide (TurnM.new BB4.out HAB.out HSZ.out (#[.int .i64 (k : Int), .int .i64 (j : Int)] : Array Value))
      clear KF
      generalize v4.setRow ab (#[.int .i64 (k : Int), .int .i64 (j : Int)] : Array Value) = v5 at *
      refine hK.out _ _ (M5.out) (fun hHeld => ?_)
      clear hK K hOld
      try simp only [Act.put, List.setIfInBounds_toArray, List.set_cons_zero, List.set_cons_succ]
      refine wpAnyH_take (i := 18) (oi := { dst := some 8, op := Op.assign (Operand.tmp 24), type := 35, pos := "law.go:42", after := #[{ on := 15, ground := Ground.data }, { on := 17, ground := Ground.chain }, { on := 0, ground := Ground.phase }, { on := 1, ground := Ground.phase }, { on := 2, ground := Ground.phase }, { on := 3, ground := Ground.phase }, { on := 4, ground := Ground.phase }, { on := 5, ground := Ground.phase }, { on := 6, ground := Ground.phase }, { on := 7, ground := Ground.phase }, { on := 8, ground := Ground.phase }, { on := 9, ground := Ground.phase }, { on := 10, ground := Ground.phase }, { on := 11, ground := Ground.phase }, { on := 12, ground := Ground.phase }, { on := 13, ground := Ground.phase }, { on := 14, ground := Ground.phase }, { on := 15, ground := Ground.phase }, { on := 16, ground := Ground.phase }, { on := 17, ground := Ground.phase }], guard := none }) (v := ?_) rfl (by kernel_rfl) (by kernel_rfl) (by kernel_rfl) (fun _ _ _ h => h) (Or.inl ⟨by kernel_rfl, ?_⟩) hHeld ?_
      rotate_left
      · (intro w hSw; (try dsimp only at hSw); have m0 := cell_of_block hSw 0; have m1 := cell_of_block hSw 1; have m2 := cell_of_block hSw 2; have m3 := cell_of_block hSw 3; go_simp); try with_reducible rfl
      try simp only [Act.put, List.setIfInBounds_toArray, List.set_cons_zero, List.set_cons_succ]
      refine wpAnyH_done (by kernel_rfl) ?_ _
      clear hHeld
      go_wp2_with fail
      go_meet
      exact ⟨ab, k, j, Y, rfl, rfl, HP.out, X5.out, A5.out, M5.out, BB5.out⟩
  case rest =>
  obtain ⟨ab, k, j, Y, rfl, rfl, hp, hy, ha, hm, hb⟩ := hcut
  have X6 := hide hy
  have A6 := hide ha
  have M6 := hide hm
  have B6 := hide hb
  have P6 := hide hp
  clear hy ha hm hb hp X0 M0 BB0 HPU HFU
  have HWQ := hide (HWP.out Y k j P6.out.same.1 P6.out.kj.1 P6.out.kj.2.2 P6.out.fresh)
  clear HWP
  have a3 := cell_of_block M6.out 3
  go_wp2_with (refine rw_load rfl 41 (.tmp 7) rfl ab rfl 41 #[.int .i64 (k : Int), .int .i64 (j : Int)] (0, 0) _ A6.out Tryz.underlying41 rfl (by kernel_rfl) ?_)
  refine (HWQ.out _ X6.out).mono ?_
  rintro e w7 ⟨rfl, hm, hb⟩
  have X7 := hide hm
  have B7 := hide (B6.out.trans hb)
  clear hm hb a3 X6 M6 A6 B6 HWQ
  go_wp2_with fail
  go_ret
  exact ⟨Y, k, j, rfl, P6.out, X7.out, B7.out⟩
end
end Go.Proofs.YtjfmkfhjbdiojaaGreat

namespace Go.Proofs.YtjfmkfhjbdiojaaGreat
set_option linter.unusedSimpArgs false
set_option linter.unusedVariables false
open Go.RowKit W
theorem cnt_free (L : List (Int × Int)) : ∀ k, k ≤ L.length → cntK L 1 k = (L.take k).countP (fun x => decide (x.1 = 1))
  | 0, _ => by simp [cntK]
  | k + 1, h => by
    have ih := cnt_free L k (by omega)
    have hk : k < L.length := by omega
    unfold cntK
    rw [ih, List.take_succ_eq_append_getElem hk, List.countP_append]
    simp [List.getD, hk]
    split <;> rfl
theorem cnt_freeN (L : List (Int × Int)) : cntK L 1 L.length = freeN L := by
  rw [cnt_free L L.length (Nat.le_refl _), List.take_length]
  rfl
/-- the blocks in use that aren't the open one -/
def candL (L : List (Int × Int)) (op : Int) (nb : Nat) : List Nat := (List.range nb).filter fun b => decide ((L.getD b (0, 0)).1 = 2 ∧ (b : Int) ≠ op)
theorem candL_mem {L : List (Int × Int)} {op : Int} {nb b : Nat} (h : b ∈ candL L op nb) : b < nb ∧ (L.getD b (0, 0)).1 = 2 ∧ (b : Int) ≠ op := by
  unfold candL at h
  rw [List.mem_filter] at h
  obtain ⟨h1, h2⟩ := h
  exact ⟨List.mem_range.mp h1, of_decide_eq_true h2⟩
theorem candL_nodup (L : List (Int × Int)) (op : Int) (nb : Nat) : (candL L op nb).Nodup := List.Pairwise.filter _ List.nodup_range
theorem filter_but {U : List Nat} (h : U.Nodup) (op : Int) : U.length ≤ (U.filter fun b : Nat => decide ((b : Int) ≠ op)).length + 1 := by
  induction U with
  | nil => simp
  | cons a U ih =>
    rw [List.nodup_cons] at h
    have h2 := ih h.2
    by_cases e : (a : Int) = op
    · have h3 : (U.filter fun b : Nat => decide ((b : Int) ≠ op)) = U := by
        rw [List.filter_eq_self]
        intro b hb
        have : b ≠ a := fun e2 => h.1 (e2 ▸ hb)
        exact decide_eq_true (by omega)
      rw [List.filter_cons_of_neg (by simp [e]), h3, List.length_cons]
      exact Nat.le_refl _
    · rw [List.filter_cons_of_pos (by simp [e]), List.length_cons, List.length_cons]
      omega
theorem used_count (L : List (Int × Int)) (nb : Nat) (hl : L.length = nb) (hst : ∀ k, k < nb → (L.getD k (0, 0)).1 = 1 ∨ (L.getD k (0, 0)).1 = 2) : ((List.range nb).filter fun b : Nat => decide ((L.getD b (0, 0)).1 = 2)).length + freeN L = nb := by
  have h1 : freeN L = (List.range nb).countP (fun b : Nat => decide ((L.getD b (0, 0)).1 = 1)) := by
    have e : L = (List.range nb).map (fun b => L.getD b (0, 0)) := by
      apply List.ext_getElem
      · simp [hl]
      · intro i h1 h2
        simp [List.getD, h1]
    unfold freeN
    conv => lhs; rw [e]
    rw [List.countP_map]
    rfl
  rw [h1, ← List.countP_eq_length_filter]
  have h2 : (List.range nb).countP (fun b : Nat => decide ((L.getD b (0, 0)).1 = 1)) = (List.range nb).countP (fun b : Nat => !decide ((L.getD b (0, 0)).1 = 2)) := by
    apply List.countP_congr
    intro b hb
    rcases hst b (List.mem_range.mp hb) with h | h
    · simp [List.getD] at h ⊢; simp [h]
    · simp [List.getD] at h ⊢; simp [h]
  rw [h2]
  have h3 := List.length_eq_countP_add_countP (fun b : Nat => decide ((L.getD b (0, 0)).1 = 2)) (l := List.range nb)
  rw [List.length_range] at h3
  have h4 : (List.range nb).countP (fun b : Nat => !decide ((L.getD b (0, 0)).1 = 2)) = (List.range nb).countP (fun b : Nat => decide ¬(decide ((L.getD b (0, 0)).1 = 2)) = true) := by
    apply List.countP_congr
    intro b _
    simp
  omega
theorem candL_len (L : List (Int × Int)) (op : Int) (nb : Nat) (hl : L.length = nb) (hst : ∀ k, k < nb → (L.getD k (0, 0)).1 = 1 ∨ (L.getD k (0, 0)).1 = 2) : nb ≤ (candL L op nb).length + 1 + freeN L := by
  have h1 := used_count L nb hl hst
  have h2 := filter_but (U := (List.range nb).filter fun b : Nat => decide ((L.getD b (0, 0)).1 = 2)) (List.Pairwise.filter _ List.nodup_range) op
  rw [List.filter_filter] at h2
  have e : candL L op nb = (List.range nb).filter (fun b : Nat => decide ((b : Int) ≠ op) && decide ((L.getD b (0, 0)).1 = 2)) := by
    unfold candL
    congr 1
    funext b
    rw [Bool.and_comm, ← Bool.decide_and]
  rw [← e] at h2
  omega
def sumLive (C : List Nat) (M : Spots) : Nat := (C.map fun b : Nat => liveN M (b : Int)).sum
theorem sum_zero17 (f : Nat → Nat) : ∀ C : List Nat, (∀ b ∈ C, f b = 0) → (C.map f).sum = 0
  | [], _ => by simp
  | b :: C, h => by
    rw [List.map_cons, List.sum_cons, sum_zero17 f C (fun x hx => h x (List.mem_cons_of_mem _ hx)), h b (List.mem_cons_self ..)]
theorem ind_sum (o : Option (Int × Int)) : ∀ C : List Nat, C.Nodup → (C.map fun b : Nat => if (o.any fun x => x.1 == (b : Int)) = true then 1 else 0).sum ≤ if o.isSome = true then 1 else 0
  | [], _ => by simp
  | b :: C, h => by
    rw [List.nodup_cons] at h
    cases o with
    | none => rw [sum_zero17 _ _ (fun b _ => by simp)]; simp
    | some x =>
      have ih := ind_sum (some x) C h.2
      rw [List.map_cons, List.sum_cons]
      simp only [Option.any_some, Option.isSome_some, if_true] at ih ⊢
      by_cases e : x.1 = (b : Int)
      · have h0 : (C.map fun b : Nat => if (x.1 == (b : Int)) = true then 1 else 0).sum = 0 := by
          refine sum_zero17 _ _ (fun b2 hb2 => ?_)
          rw [if_neg]
          simp only [beq_iff_eq]
          intro e2
          have : b2 = b := by omega
          exact h.1 (this ▸ hb2)
        rw [if_pos (by simp [e]), h0]
        omega
      · rw [if_neg (by simp [e])]
        omega
theorem sumLive_le (C : List Nat) (h : C.Nodup) : ∀ M : Spots, sumLive C M ≤ total M
  | [] => by
    unfold sumLive total liveN
    rw [sum_zero17 _ _ (fun b _ => by simp)]
    omega
  | o :: M => by
    have ih := sumLive_le C h M
    have h1 := ind_sum o C h
    have h2 : sumLive C (o :: M) = sumLive C M + (C.map fun b : Nat => if (o.any fun x => x.1 == (b : Int)) = true then 1 else 0).sum := by
      unfold sumLive
      clear ih h1 h
      induction C with
      | nil => simp
      | cons b C ih =>
        rw [List.map_cons, List.sum_cons, ih, List.map_cons, List.sum_cons, List.map_cons, List.sum_cons]
        unfold liveN
        rw [List.countP_cons]
        omega
    have h3 : total (o :: M) = total M + if o.isSome = true then 1 else 0 := by
      unfold total
      rw [List.countP_cons]
    omega
theorem sum_ge (f : Nat → Nat) (m : Nat) : ∀ C : List Nat, (∀ b ∈ C, m ≤ f b) → m * C.length ≤ (C.map f).sum
  | [], _ => by simp
  | b :: C, h => by
    have ih := sum_ge f m C (fun x hx => h x (List.mem_cons_of_mem _ hx))
    have hb := h b (List.mem_cons_self ..)
    rw [List.map_cons, List.sum_cons, List.length_cons, Nat.mul_add]
    omega
section
variable {nb pg sz : Nat} {N : Int} {X : MvS}
/-- a block in use that isn't open and has few pages -/
theorem low_exists (h : HOk nb pg sz N X) (m : Nat) (ht : total X.M < m * (nb - freeN X.L - 1)) : ∃ b, b < nb ∧ (X.L.getD b (0, 0)).1 = 2 ∧ (b : Int) ≠ X.op ∧ liveN X.M (b : Int) < m := by
  rcases Classical.em (∃ b ∈ candL X.L X.op nb, liveN X.M (b : Int) < m) with ⟨b, hb, hm⟩ | hno
  · obtain ⟨h1, h2, h3⟩ := candL_mem hb
    exact ⟨b, h1, h2, h3, hm⟩
  · have h1 := sum_ge (fun b : Nat => liveN X.M (b : Int)) m (candL X.L X.op nb) (fun b hb => Nat.le_of_not_lt (fun hh => hno ⟨b, hb, hh⟩))
    have h2 := sumLive_le (candL X.L X.op nb) (candL_nodup _ _ _) X.M
    have h3 := candL_len X.L X.op nb h.llen h.st
    have h4 : m * (nb - freeN X.L - 1) ≤ m * (candL X.L X.op nb).length := Nat.mul_le_mul_left _ (by omega)
    unfold sumLive at h2
    omega
theorem choose17 (h : HOk nb pg sz N X) (hnb : nb ≤ 256) (hex : ∃ b, b < nb ∧ (X.L.getD b (0, 0)).1 = 2 ∧ (b : Int) ≠ X.op ∧ (liveN X.M (b : Int) : Int) < (pg : Int) - 1) :
    ∃ c : Nat, chooseZ X.L X.M nb ([] ++ fullK X.M pg nb ++ [X.op]) = ((c : Int), true) ∧ c < nb ∧ (X.L.getD c (0, 0)).1 = 2 ∧ (c : Int) ≠ X.op ∧ (liveN X.M (c : Int) : Int) < (pg : Int) - 1 ∧ ∀ b, b < nb → (X.L.getD b (0, 0)).1 = 2 → (b : Int) ≠ X.op → liveN X.M (c : Int) ≤ liveN X.M (b : Int) := by
  rw [List.nil_append]
  obtain ⟨b, b1, b2, b3, b4⟩ := hex
  obtain ⟨l1, l2⟩ := choose_least X.L X.M nb (fullK X.M pg nb ++ [X.op])
  have hU : ∀ b : Nat, b < nb → (X.L.getD b (0, 0)).1 = 2 → (b : Int) ≠ X.op → (liveN X.M (b : Int) : Int) < (pg : Int) - 1 → usedB X.L (fullK X.M pg nb ++ [X.op]) (b : Int) = true := fun b b1 b2 b3 b4 => by
    unfold usedB
    rw [fstZ_in X.L b (by rw [h.llen]; exact b1), b2]
    have hn : ¬ ((b : Int) ∈ fullK X.M pg nb ++ [X.op]) := by
      intro hm
      rcases List.mem_append.mp hm with e | e
      · have := fullK_mem X.M pg nb _ e
        omega
      · exact b3 (List.mem_singleton.mp e)
    simp [hn]
  have hcz : ∃ cz bo, chooseZ X.L X.M nb (fullK X.M pg nb ++ [X.op]) = (cz, bo) := ⟨_, _, rfl⟩
  obtain ⟨cz, bo, hc⟩ := hcz
  rw [hc] at l1 l2
  cases bo with
  | false =>
    have := l2 rfl b (by omega)
    rw [hU b b1 b2 b3 b4] at this
    cases this
  | true =>
    obtain ⟨u1, u2⟩ := l1 rfl
    dsimp only at u1 u2
    have hin : 0 ≤ cz ∧ cz < (nb : Int) := by
      unfold usedB fstZ at u1
      rw [h.llen] at u1
      by_cases e : 0 ≤ cz ∧ cz < (nb : Int)
      · exact e
      · rw [if_neg e] at u1
        simp at u1
    obtain ⟨c, rfl⟩ : ∃ c : Nat, cz = (c : Int) := ⟨cz.toNat, by omega⟩
    have hcn : c < nb := by omega
    have hf := u1
    unfold usedB at hf
    rw [fstZ_in X.L c (by rw [h.llen]; exact hcn)] at hf
    simp only [Bool.and_eq_true, decide_eq_true_eq, Bool.not_eq_true', decide_eq_false_iff_not, List.mem_append, List.mem_singleton, not_or] at hf
    obtain ⟨f1, f2, f3⟩ := hf
    have hlc : (liveN X.M (c : Int) : Int) < (pg : Int) - 1 := by
      rcases Int.lt_or_le (liveN X.M (c : Int) : Int) ((pg : Int) - 1) with e | e
      · exact e
      · exact absurd (fullK_has X.M pg nb c hcn e) f2
    refine ⟨c, hc, hcn, f1, f3, hlc, fun b' c1 c2 c3 => ?_⟩
    rcases Int.lt_or_le (liveN X.M (b' : Int) : Int) ((pg : Int) - 1) with e | e
    · have := u2 b' (by omega) (hU b' c1 c2 c3 e)
      unfold lvZ at this
      rw [if_pos (by omega), if_pos (by omega)] at this
      omega
    · omega
/-- no block is won -/
theorem choose17_no (h : HOk nb pg sz N X) (hno : ∀ b, b < nb → (X.L.getD b (0, 0)).1 ≠ 2) (sk : List Int) : ∃ c0, chooseZ X.L X.M nb (sk ++ fullK X.M pg nb ++ [X.op]) = (c0, false) := by
  obtain ⟨l1, l2⟩ := choose_least X.L X.M nb (sk ++ fullK X.M pg nb ++ [X.op])
  obtain ⟨cz, bo, hc⟩ : ∃ cz bo, chooseZ X.L X.M nb (sk ++ fullK X.M pg nb ++ [X.op]) = (cz, bo) := ⟨_, _, rfl⟩
  rw [hc] at l1
  cases bo with
  | false => exact ⟨cz, hc⟩
  | true =>
    obtain ⟨u1, -⟩ := l1 rfl
    dsimp only at u1
    unfold usedB fstZ at u1
    rw [h.llen] at u1
    by_cases e : 0 ≤ cz ∧ cz < (nb : Int)
    · rw [if_pos e] at u1
      have := hno cz.toNat (by omega)
      simp [this] at u1
      simp [List.getD] at this
      exact absurd u1.1 this
    · rw [if_neg e] at u1
      simp at u1
theorem cold17_no (h : HOk nb pg sz N X) (hno : ∀ b, b < nb → (X.L.getD b (0, 0)).1 ≠ 2) (lv : Int) (sk : List Int) : coldZ X.L lv sk = (0, false) := by
  unfold coldZ
  rw [if_pos]
  refine .inr (.inr (.inl ?_))
  unfold fstZ
  rw [h.llen]
  split
  · next e => exact hno _ (by omega)
  · decide
theorem total_two {M : Spots} (h : ∀ l, 2 ≤ l → M.getD l none = none) : total M ≤ 2 := by
  unfold total
  rw [← List.take_append_drop 2 M, List.countP_append]
  have h1 : (M.drop 2).countP Option.isSome = 0 := by
    rw [List.countP_eq_zero]
    intro o ho
    obtain ⟨i, hi, rfl⟩ := List.mem_iff_getElem.mp ho
    have := h (2 + i) (by omega)
    rw [List.getElem_drop]
    have hi2 : 2 + i < M.length := by rw [List.length_drop] at hi; omega
    simp [List.getD, hi2] at this
    rw [this]
    simp
  have h2 : (M.take 2).countP Option.isSome ≤ 2 := Nat.le_trans List.countP_le_length (by rw [List.length_take]; omega)
  omega
end
end Go.Proofs.YtjfmkfhjbdiojaaGreat

namespace Go.Proofs.YtjfmkfhjbdiojaaGreat
set_option linter.unusedSimpArgs false
set_option linter.unusedVariables false
open Go.RowKit Go.WideShapes Go.ChangeShapes Go.ChangeAt Go.Deep W

theorem mv17 : capX 5 mvX0 = 36 ∧ mvX0.M.length = 10 ∧ mvX0.lf = 0 ∧ (∀ b, b < 9 → (mvX0.L.getD b (0, 0)).1 ≠ 2) ∧ (∀ l, mvX0.M.getD l none = none) ∧ mvX0.S.progs = 0 ∧ mvX0.S.eras = 0 ∧ freeN mvX0.L = 9 := by
  refine ⟨by decide +kernel, rfl, rfl, by decide +kernel, fun l => ?_, rfl, rfl, by decide +kernel⟩
  show (List.replicate 10 (none : Option (Int × Int))).getD l none = none
  simp only [List.getD, List.getElem?_replicate]
  split <;> rfl
/-- how many are free by the room, where the open block has less than a block's -/
theorem free_cap {X : MvS} {f : Nat} (h0 : 0 ≤ X.lf) (h3 : X.lf ≤ 3) (hc : 4 * (f : Int) ≤ capX 5 X) (hc2 : capX 5 X ≤ 4 * (f : Int) + 3) : freeN X.L = f := by
  unfold capX at hc hc2
  omega
theorem freeX_n {X : MvS} {c : Nat} (hc : c < X.L.length) (h2 : (X.L.getD c (0, 0)).1 = 2) : freeN (freeX X c).L = freeN X.L + 1 := by
  have := freeN_set X.L c (1, (X.L.getD c (0, 0)).2) hc
  rw [if_neg (by omega), if_pos rfl] at this
  exact this
set_option maxRecDepth 100000 in
set_option maxHeartbeats 16000000 in
theorem wakes17 (w : World) : Calls Tryz.prog 7 #[] w fun e w' => e = .returned (.bool true) ∧ Below w.heap.size w w' := by
  have HFR := hide (fun W => fresh16 W)
  unfold Fresh16 at HFR
  obtain ⟨Xs, hX0⟩ : ∃ Xs, mvX0 = Xs := ⟨_, rfl⟩
  have HC0 := hide mv17
  have HOK0 := hide mvX0_ok
  rw [hX0] at HFR HC0 HOK0
  have HW0 := hide (show ∀ B0 A W, MvAt W B0 A 9 5 Xs → Calls Tryz.prog 9 #[.agg #[.pointer (some ⟨A.d, 0, none⟩), .pointer (some ⟨A.pp, 0, none⟩), .pointer (some ⟨A.sb, 0, none⟩), .pointer (some ⟨A.mp, 0, none⟩)], .map none, .slice none 0 0] W fun e w' => e = .returned (.tuple #[.bool false, .int .i64 0]) ∧ Below W.heap.size W w' from fun B0 A W hW => by
    obtain ⟨c0, hc⟩ := choose17_no HOK0.out HC0.out.2.2.2.1 []
    exact win17_no HOK0.out (by decide) (by decide) (by decide) (by decide) none 0 [] (by decide) c0 hc W hW (.inl ⟨rfl, rfl⟩))
  clear hX0
  obtain ⟨B0, hB0⟩ : ∃ B0, w.heap.size = B0 := ⟨_, rfl⟩
  rw [hB0]
  go_enter Tryz.func7, Tryz.ntmps7
  go_wp2_with fail
  refine (HFR.out _).mono ?_
  rintro e w1 ⟨A, rfl, hm, hb⟩
  rw [hB0] at hm hb
  have X1 := hide hm
  have B1 := hide hb
  clear hm hb HFR hB0
  go_upto_region 2 with (refine rw_store rfl 29 (.tmp 2) (.tmp 13) rfl w1.heap.size rfl #[.pointer (some ⟨A.d, 0, none⟩), .pointer (some ⟨A.pp, 0, none⟩), .pointer (some ⟨A.sb, 0, none⟩), .pointer (some ⟨A.mp, 0, none⟩)] rfl _ (heap_new w1 _) (by kernel_rfl) rfl (by simp [Value.oneCell']) ?_)
  have XB := hide (heap_new w1 (.cells #[.pointer none, .pointer none, .pointer none, .pointer none] 29))
  have hal := (Below.refl w1.heap.size w1).alloc (Nat.le_refl _) (.cells #[.pointer none, .pointer none, .pointer none, .pointer none] 29)
  have hbb := setRow_below (hal.trans (Below.refl _ _)) (Nat.le_refl _) hal.size (#[.pointer (some ⟨A.d, 0, none⟩), .pointer (some ⟨A.pp, 0, none⟩), .pointer (some ⟨A.sb, 0, none⟩), .pointer (some ⟨A.mp, 0, none⟩)] : Array Value)
  have M2 := hide (setRow_same (cs := (#[.pointer (some ⟨A.d, 0, none⟩), .pointer (some ⟨A.pp, 0, none⟩), .pointer (some ⟨A.sb, 0, none⟩), .pointer (some ⟨A.mp, 0, none⟩)] : Array Value)) XB.out)
  have X2 := hide (X1.out.below hbb)
  have B2 := hide (B1.out.trans (hbb.mono X1.out.size))
  clear hal hbb XB X1 B1 
  generalize (w1.alloc (.cells #[.pointer none, .pointer none, .pointer none, .pointer none] 29)).setRow w1.heap.size (#[.pointer (some ⟨A.d, 0, none⟩), .pointer (some ⟨A.pp, 0, none⟩), .pointer (some ⟨A.sb, 0, none⟩), .pointer (some ⟨A.mp, 0, none⟩)] : Array Value) = w2 at *
  generalize w1.heap.size = mb at *
  (try rw [show ∀ (a : Act) (v : Value), a.put none v = a from fun _ _ => rfl])
  go_wp2_with (refine rw_load rfl 29 (.tmp 2) rfl mb rfl 29 #[.pointer (some ⟨A.d, 0, none⟩), .pointer (some ⟨A.pp, 0, none⟩), .pointer (some ⟨A.sb, 0, none⟩), .pointer (some ⟨A.mp, 0, none⟩)] (0, 0) _ M2.out Tryz.underlying29 rfl (by kernel_rfl) ?_)
  refine (HW0.out _ _ _ X2.out).mono ?_
  rintro e w3 ⟨rfl, hb⟩
  have M3 := hide ((hb.block _ (heap_lt M2.out)).trans M2.out)
  have X3 := hide (X2.out.below hb)
  have B3 := hide (B2.out.trans (hb.mono X2.out.size))
  clear hb X2 B2 M2
  clear HW0
  go_wp2_with fail
  go_loopw [20] (fun s W => ∃ (i : Nat) (V : MvS), i ≤ 5 ∧ s = .int .i64 (i : Int) ∧ HOk 9 5 32 (3 * (i : Int)) V ∧ capX 5 V + (i : Int) = 36 ∧ V.M.length = 10 ∧ V.lf ≤ 3 ∧ (∀ l, 2 ≤ l → V.M.getD l none = none) ∧ MvAt W B0 A 9 5 V ∧ W.heap[mb]? = some (.cells #[.pointer (some ⟨A.d, 0, none⟩), .pointer (some ⟨A.pp, 0, none⟩), .pointer (some ⟨A.sb, 0, none⟩), .pointer (some ⟨A.mp, 0, none⟩)] 29 (0, 0)) ∧ Below B0 w W) (fun s _ => 5 - (intOf s).toNat)
  case atStart => exact ⟨0, Xs, by omega, rfl, HOK0.out.mono (by omega), by rw [HC0.out.1]; rfl, HC0.out.2.1, by rw [HC0.out.2.2.1]; decide, fun l _ => HC0.out.2.2.2.2.1 l, X3.out, M3.out, B3.out⟩
  case round =>
  obtain ⟨i, V, him, rfl, hy, hcap, hlen, hlf, hno, hx, hm, hb⟩ := hrel
  have V4 := hide hy
  have C4 := hide hcap
  have L4 := hide hlen
  have F4 := hide hlf
  have N4 := hide hno
  have Xr := hide hx
  have Mr := hide hm
  have Br := hide hb
  clear hy hcap hlen hlf hno hx hm hb X3 M3 B3 HOK0 HC0
  rcases Nat.lt_or_ge i 5 with hlt | hge
  · have hI : (i : Int) < 5 := by omega
    have HI5 := hide hlt
    obtain ⟨l, hl⟩ : ∃ l : Nat, i % 2 = l := ⟨_, rfl⟩
    have HL2 := hide (show l < 2 by omega)
    have htm : (i : Int).tmod 2 = (l : Int) := by rw [Int.tmod_eq_emod_of_nonneg (by omega)]; omega
    have HPU := hide (fun W (hW : MvAt W B0 A 9 5 V) => put17 V4.out (by omega) (by decide) (by decide) (by decide) (V4.out.cap_room (by have := C4.out; omega)) l i (by rw [L4.out]; omega) (by omega) (by omega) W hW)
    unfold PutL at HPU
    have hwu : IntKind.u64.wrap (i : Int) = (i : Int) := u64_id16 _ (by omega) (by omega)
    clear him hlt hl
    go_wp2_with (refine rw_load rfl 29 (.tmp 2) rfl mb rfl 29 #[.pointer (some ⟨A.d, 0, none⟩), .pointer (some ⟨A.pp, 0, none⟩), .pointer (some ⟨A.sb, 0, none⟩), .pointer (some ⟨A.mp, 0, none⟩)] (0, 0) _ Mr.out Tryz.underlying29 rfl (by kernel_rfl) ?_)
    refine (HPU.out _ Xr.out).mono ?_
    rintro e w5 ⟨Y, k, j, rfl, hp, hm, hb⟩
    have M5 := hide (hb.keep Mr.out (by decide))
    have X5 := hide hm
    have B5 := hide (Br.out.trans hb.1)
    have P5 := hide hp
    clear hp
    clear hb hm Xr Br Mr HPU
    clear hwu htm
    go_wp2_with fail
    go_roundw
    case rel => exact ⟨i + 1, _, HI5.out, by go_num, (P5.out.mapped l (by rw [L4.out]; have := HL2.out; omega)).mono (by omega), by have h1 := P5.out.cap V4.out; have h2 := C4.out; show capX 5 Y + ((i + 1 : Nat) : Int) = 36; omega, by show (Y.M.set l _).length = 10; rw [List.length_set, P5.out.same.1, L4.out], P5.out.lf2 V4.out (by decide), fun m hm => by
        show (Y.M.set l _).getD m none = none
        have hne : l ≠ m := by have := HL2.out; omega
        have h1 := N4.out m hm
        rw [← P5.out.same.1] at h1
        simp only [List.getD, List.getElem?_set, if_neg hne] at h1 ⊢
        exact h1, X5.out, M5.out, B5.out⟩
    case measure => have := HI5.out; simp [intOf]; omega
  · obtain rfl : i = 5 := by omega
    have hr0 := V4.out.room.1
    have hcap : capX 5 V = 31 := by have := C4.out; omega
    have hf7 : freeN V.L = 7 := free_cap hr0 F4.out (by omega) (by omega)
    have ht2 := total_two N4.out
    have hcn := cnt_freeN V.L
    rw [hf7] at hcn
    obtain ⟨c, k1, k2, k3, k4, k5, -⟩ := choose17 V4.out (by decide) (by
      obtain ⟨b, b1, b2, b3, b4⟩ := low_exists V4.out 4 (by rw [hf7]; omega)
      exact ⟨b, b1, b2, b3, by omega⟩)
    have hsh : shutX V c = V := if_neg (fun e => k4 e.symm)
    have hlc : (liveN V.M (c : Int) : Int) ≤ 2 := by have := live_le V.M (c : Int); omega
    have HWN := hide (fun W (hW : MvAt W B0 A 9 5 V) => win17_yes V4.out (by decide) (by decide) (by decide) (by decide) none 0 [] (by decide) (by decide) c k2 k3 (by rw [hsh, hcap]; omega) k1 W hW (.inl ⟨rfl, rfl⟩))
    unfold Empty17 at HWN
    rw [show (([] : List Int).length) = 0 from rfl] at HWN
    have HCN := hide (fun W (hW : MvAt W B0 A 9 5 V) => pcount_any A.pp A.pq V.L (by rw [V4.out.llen]; decide) 1 W hW.st.pool)
    rw [hcn, show ((7 : Nat) : Int) = 7 from rfl] at HCN
    have HCM := hide (show ∀ Y : MvS, HOk 9 5 32 (3 * ((5 : Nat) : Int) + 3 * ((5 : Nat) : Int)) Y → Clr 5 c 5 (shutX V c) Y → ∀ W, MvAt W B0 A 9 5 (freeX Y c) → Calls Tryz.prog 25 #[.pointer (some ⟨A.pp, 0, none⟩), .int .i64 1] W fun e w' => e = .returned (.int .i64 8) ∧ Below W.heap.size W w' from fun Y hY hC W hW => by
      rw [hsh] at hC
      have hu := hC.used c k3
      have hl3 := hC.lf2 F4.out
      have hcp := hC.cap
      have hz := (clr_all hC hY).1
      rw [hz] at hcp
      have hf : freeN Y.L = 7 := free_cap hY.room.1 hl3 (by omega) (by omega)
      have h8 := freeX_n (by rw [hY.llen]; exact k2) hu
      rw [hf] at h8
      have := pcount_any A.pp A.pq (freeX Y c).L (by show (Y.L.set c _).length ≤ 1000000; rw [List.length_set, hY.llen]; decide) 1 W hW.st.pool
      rw [cnt_freeN, h8] at this
      exact this)
    clear hr0 hcap hf7 ht2 hcn k1 k2 k3 k4 k5 hlc hsh him hge
    have m1 := cell_of_block Mr.out 1
    go_wp2_with fail
    refine (HCN.out _ Xr.out).mono ?_
    rintro e w6 ⟨rfl, hb⟩
    have M6 := hide ((hb.block _ (heap_lt Mr.out)).trans Mr.out)
    have X6 := hide (Xr.out.below hb)
    have B6 := hide (Br.out.trans (hb.mono Xr.out.size))
    clear hb Xr Br Mr m1 HCN
    go_wp2_with (refine rw_load rfl 29 (.tmp 2) rfl mb rfl 29 #[.pointer (some ⟨A.d, 0, none⟩), .pointer (some ⟨A.pp, 0, none⟩), .pointer (some ⟨A.sb, 0, none⟩), .pointer (some ⟨A.mp, 0, none⟩)] (0, 0) _ M6.out Tryz.underlying29 rfl (by kernel_rfl) ?_)
    refine (HWN.out _ X6.out).mono ?_
    rintro e w7 ⟨Y, rfl, hy, hc, hm, hb⟩
    have M7 := hide (hb.keep M6.out (by decide))
    have X7 := hide hm
    have B7 := hide (B6.out.trans hb.1)
    have HY := hide (And.intro hy hc)
    clear hy hc
    clear hb hm X6 B6 M6 HWN
    have m1 := cell_of_block M7.out 1
    go_wp2_with fail
    refine (HCM.out Y HY.out.1 HY.out.2 _ X7.out).mono ?_
    rintro e w8 ⟨rfl, hb⟩
    have B8 := hide (B7.out.trans (hb.mono X7.out.size))
    clear hb m1
    go_wp2_with fail
    go_ret
    exact ⟨rfl, B8.out⟩
end Go.Proofs.YtjfmkfhjbdiojaaGreat

namespace Go.Proofs.YtjfmkfhjbdiojaaGreat
set_option linter.unusedSimpArgs false
set_option linter.unusedVariables false
open Go.RowKit W
structure Inv17 (F : Nat → Option Nat) (N : Int) (X : MvS) : Prop where
  ok : HOk 9 5 32 N X
  len : X.M.length = 10
  lf : X.lf ≤ 3
  free : 2 ≤ freeN X.L
  nn : ∀ l, F l = none → X.M.getD l none = none
  sm : ∀ l s, F l = some s → s ≤ 1000 ∧ (X.M.getD l none).isSome = true ∧ X.D l = (⟨1, l, s, 0, 1⟩, txt17 l s)
theorem inv_new : Inv17 (fun _ => none) 0 mvX0 := ⟨mvX0_ok, rfl, by rw [mv17.2.2.1]; decide, by rw [mv17.2.2.2.2.2.2.2]; decide, fun l _ => mv17.2.2.2.2.1 l, fun l s h => by cases h⟩
theorem Inv17.mono {F : Nat → Option Nat} {N N' : Int} {X : MvS} (h : Inv17 F N X) (hN : N ≤ N') : Inv17 F N' X := { h with ok := h.ok.mono hN }
theorem total_eq {M M' : Spots} (hl : M'.length = M.length) (h : ∀ l, (M'.getD l none).isSome = (M.getD l none).isSome) : total M' = total M := by
  have e : M'.map Option.isSome = M.map Option.isSome := by
    apply List.ext_getElem
    · simp [hl]
    · intro i h1 h2
      have := h i
      rw [List.length_map] at h1 h2
      simp only [List.getD, List.getElem?_eq_getElem h1, List.getElem?_eq_getElem h2, Option.getD_some] at this
      simpa using this
  unfold total
  have h1 : M'.countP Option.isSome = (M'.map Option.isSome).countP id := by rw [List.countP_map]; rfl
  have h2 : M.countP Option.isSome = (M.map Option.isSome).countP id := by rw [List.countP_map]; rfl
  rw [h1, h2, e]
theorem inv_win {F : Nat → Option Nat} {N : Int} {X : MvS} (h : Inv17 F N X) (h2 : freeN X.L = 2) :
    ∃ c : Nat, chooseZ X.L X.M 9 ([] ++ fullK X.M 5 9 ++ [X.op]) = ((c : Int), true) ∧ c < 9 ∧ (X.L.getD c (0, 0)).1 = 2 ∧ (liveN X.M (c : Int) : Int) ≤ capX 5 (shutX X c) ∧
      ∀ Y, HOk 9 5 32 (N + 3 * ((5 : Nat) : Int)) Y → Clr 5 c 5 (shutX X c) Y → Inv17 F (N + 15) (freeX Y c) ∧ (3 ≤ freeN (freeX Y c).L ∨ (X.lf = 0 ∧ (freeX Y c).lf = 3)) ∧ total (freeX Y c).M = total X.M := by
  have ht : total X.M ≤ 10 := by have := total_le X.M; rw [h.len] at this; exact this
  obtain ⟨b, b1, b2, b3, b4⟩ := low_exists h.ok 2 (by rw [h2]; omega)
  obtain ⟨c, k1, k2, k3, k4, k5, k6⟩ := choose17 h.ok (by decide) ⟨b, b1, b2, b3, by omega⟩
  have hl1 : liveN X.M (c : Int) ≤ 1 := by have := k6 b b1 b2 b3; omega
  have hsh : shutX X c = X := if_neg (fun e => k4 e.symm)
  have hr := h.ok.room
  have hcap : capX 5 X = X.lf + 8 := by unfold capX; rw [h2]; omega
  refine ⟨c, k1, k2, k3, by rw [hsh, hcap]; omega, fun Y hY hC => ?_⟩
  rw [hsh] at hC
  have hz := clr_all hC hY
  have hcp := hC.cap
  rw [hz.1, hcap] at hcp
  have hlY := hC.lf2 (by have := h.lf; omega)
  have hrY := hY.room.1
  have hfr := freeX_n (X := Y) (c := c) (by rw [hY.llen]; exact k2) (hC.used c k3)
  have hcY : capX 5 Y = Y.lf + 4 * (freeN Y.L : Int) := by unfold capX; omega
  have hlfX : (freeX Y c).lf = Y.lf := rfl
  have hMX : (freeX Y c).M = Y.M := rfl
  have hlf := h.lf
  refine ⟨⟨(hok_free hY c k2 hC.opn hz.2).mono (by omega), by rw [hMX, hC.len]; exact h.len, by rw [hlfX]; omega, by rw [hfr]; omega, fun l hl => ?_, fun l s hs => ?_⟩, ?_, ?_⟩
  · have h1 := hC.kept l
    rw [h.nn l hl] at h1
    rw [hMX]
    cases e : Y.M.getD l none with
    | none => rfl
    | some x => rw [e] at h1; cases h1
  · obtain ⟨s1, s2, s3⟩ := h.sm l s hs
    refine ⟨s1, ?_, ?_⟩
    · rw [hMX, hC.kept l]; exact s2
    · show Y.D l = _
      rw [hC.D]; exact s3
  · rw [hfr, hlfX]
    omega
  · rw [hMX]
    exact total_eq hC.len hC.kept
theorem inv_put {F : Nat → Option Nat} {N : Int} {X Y : MvS} {k j l s : Nat} (h : Inv17 F N X) (hf : 3 ≤ freeN X.L) (hl : l < 10) (hs : s ≤ 1000) (hp : PutX 9 5 32 N X Y k j ⟨1, l, s, 0, 1⟩ (txt17 l s)) :
    Inv17 (fun i => if i = l then some s else F i) (N + 3) (mapX Y l k j ⟨1, l, s, 0, 1⟩ (txt17 l s)) ∧ total (mapX Y l k j ⟨1, l, s, 0, 1⟩ (txt17 l s)).M = if (F l).isSome = true then total X.M else total X.M + 1 := by
  have hlt : l < X.M.length := by rw [h.len]; exact hl
  have hM : (mapX Y l k j ⟨1, l, s, 0, 1⟩ (txt17 l s)).M = X.M.set l (some ((k : Int), (j : Int))) := by show Y.M.set l _ = _; rw [hp.same.1]
  have hcp := hp.cap h.ok
  have hr := h.ok.room
  have hrY := hp.ok.room.1
  have hlY := hp.lf2 h.ok (by decide)
  have hlf := h.lf
  refine ⟨⟨hp.mapped l hlt, by rw [hM, List.length_set]; exact h.len, hlY, ?_, fun m hm => ?_, fun m s' hm => ?_⟩, ?_⟩
  · show 2 ≤ freeN Y.L
    unfold capX at hcp
    omega
  · (try dsimp only at hm)
    by_cases e : m = l
    · rw [if_pos e] at hm; cases hm
    · rw [if_neg e] at hm
      rw [hM]
      have := h.nn m hm
      simp only [List.getD, List.getElem?_set, if_neg (Ne.symm e)] at this ⊢
      exact this
  · (try dsimp only at hm)
    by_cases e : m = l
    · subst e
      rw [if_pos rfl] at hm
      obtain rfl := Option.some.inj hm
      refine ⟨hs, by rw [hM]; simp [List.getD, hlt], ?_⟩
      show (if m = m then ((⟨1, m, s, 0, 1⟩ : TgM), txt17 m s) else Y.D m) = _
      rw [if_pos rfl]
    · rw [if_neg e] at hm
      obtain ⟨s1, s2, s3⟩ := h.sm m s' hm
      refine ⟨s1, ?_, ?_⟩
      · rw [hM]
        simp only [List.getD, List.getElem?_set, if_neg (Ne.symm e)] at s2 ⊢
        exact s2
      · show (if m = l then ((⟨1, l, s, 0, 1⟩ : TgM), txt17 l s) else Y.D m) = _
        rw [if_neg e, hp.same.2]
        exact s3
  · rw [hM]
    have h1 := countP_set (p := Option.isSome) hlt (some ((k : Int), (j : Int)))
    have h2 : (X.M.getD l none).isSome = (F l).isSome := by
      cases e : F l with
      | none => rw [h.nn l e]; rfl
      | some s' => rw [(h.sm l s' e).2.1]; rfl
    rw [h2] at h1
    unfold total
    simp only [Option.isSome_some, if_true] at h1
    split at h1 <;> split <;> first | omega | (next a b => exact absurd b a) | (next a b => exact absurd a b)
/-- a map that says by which number each page was put last -/
def MapF (F : Nat → Option Nat) (f : Lit → Option Value) : Prop := ∀ x : Int, -9223372036854775808 ≤ x → x ≤ 9223372036854775807 → f (.int .i64 x) = if 0 ≤ x then (F x.toNat).map (fun s : Nat => Value.int .u64 (s : Int)) else none
theorem mapF_new : MapF (fun _ => none) (fun _ => none) := fun x _ _ => by split <;> rfl
theorem mapF_put {F : Nat → Option Nat} {f : Lit → Option Value} (h : MapF F f) (l s : Nat) : MapF (fun i => if i = l then some s else F i) (fun k => if k.sameKey (.int .i64 (l : Int)) = true then some (Value.int .u64 (s : Int)) else f k) := by
  intro x h0 h1
  dsimp only
  have hk : (Lit.int .i64 x).sameKey (.int .i64 (l : Int)) = true ↔ x = (l : Int) := by simp [Lit.sameKey]
  by_cases e : x = (l : Int)
  · rw [if_pos (hk.mpr e), if_pos (by omega), if_pos (by omega)]
    rfl
  · rw [if_neg (fun hh => e (hk.mp hh)), h x h0 h1]
    split
    · rw [if_neg (by omega)]
    · rfl
end Go.Proofs.YtjfmkfhjbdiojaaGreat
