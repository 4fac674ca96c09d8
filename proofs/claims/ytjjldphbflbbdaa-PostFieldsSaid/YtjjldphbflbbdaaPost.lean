/-
  Layer 22: lines of a posting as values; total by whatever closure; On; ContainsFunc.
-/
import Derived.Test.YtjjldphbflbbdaaCents8
import Derived.Test.YtjjldphbflbbdaaRCents5
import Derived.Test.YtjjldphbflbbdaaKitO
--import Derived.Test.Zdbg
namespace Go.Proofs.Ytjjldphbflbbdaa
set_option linter.unusedSimpArgs false
set_option linter.unusedVariables false
open Go.RowKit Go.WideShapes Go.ChangeShapes Go.ChangeAt Go.Deep

structure LnM where
  c : Int
  n : Int
deriving DecidableEq
def ln0 : LnM := ⟨0, 0⟩
def lnC (x : LnM) : List Value := [.int .i64 x.c, .int .i64 x.n]
theorem lnC_length (x : LnM) : (lnC x).length = 2 := rfl
theorem lnsC_length (L : List LnM) : (L.flatMap lnC).length = L.length * 2 := flat_length lnC 2 lnC_length L
theorem lnC_one (x : LnM) : ∀ u ∈ lnC x, u.oneCell' = true := by
  intro u hu
  simp [lnC] at hu
  rcases hu with rfl | rfl <;> rfl
def LnOk (x : LnM) : Prop := inR x.c ∧ inR x.n
/-- lines in memory -/
def LnIn (w : World) (a : Option Addr) (L : List LnM) : Prop := ∀ i, i < L.length → ∃ b off, a = some ⟨b, off, none⟩ ∧ b < w.heap.size ∧ w.cell? ⟨b, off + i * 2, none⟩ = some (.int .i64 (L.getD i ln0).c) ∧ w.cell? ⟨b, off + i * 2 + 1, none⟩ = some (.int .i64 (L.getD i ln0).n)
theorem LnIn.below {w w' : World} {a : Option Addr} {L : List LnM} (h : LnIn w a L) (hb : Below w.heap.size w w') : LnIn w' a L := fun i hi => by
  obtain ⟨b, off, ha, hbl, c0, c1⟩ := h i hi
  exact ⟨b, off, ha, Nat.lt_of_lt_of_le hbl hb.size, cell_keep c0 hbl hb, cell_keep c1 hbl hb⟩
theorem LnIn.take {w : World} {a : Option Addr} {L : List LnM} (h : LnIn w a L) (k : Nat) : LnIn w a (L.take k) := fun i hi => by
  rw [List.length_take] at hi
  obtain ⟨b, off, ha, hbl, c0, c1⟩ := h i (by omega)
  rw [show (L.take k).getD i ln0 = L.getD i ln0 by simp [List.getD, List.getElem?_take, show i < k by omega]]
  exact ⟨b, off, ha, hbl, c0, c1⟩
theorem LnIn.of_owns {w : World} {B e c : Nat} {a : Option Addr} {L : List LnM} (h : w.ownsRow B e 2 (.slice a L.length c) L.length (L.flatMap lnC)) : LnIn w a L := fun i hi => by
  obtain ⟨g, rfl, -, hg, hc⟩ := owns_rows lnC lnC_length ln0 h i hi
  refine ⟨g, 0, rfl, hg, ?_, ?_⟩
  · have h1 := hc 0 (by decide)
    rw [Nat.zero_add]
    exact h1
  · have h1 := hc 1 (by decide)
    rw [Nat.zero_add]
    exact h1
theorem ln_mem (L : List LnM) (k : Nat) (h : k < L.length) : L.getD k ln0 ∈ L := by simp [List.getD, h]
theorem ln_next (L : List LnM) (k : Nat) (h : k < L.length) : L.take (k + 1) = L.take k ++ [L.getD k ln0] := by
  rw [List.take_add_one, List.getElem?_eq_getElem h]
  simp [List.getD, h]
/-- a function with a body is entered -/
def Enters (f : FuncId) : Prop := ∀ (args : Array Value) (W : World), (callFunc f args).run Try.prog W = .ok (.enter f args) W
theorem enters {f : FuncId} {fn : Func} {c : Code} (hf : Try.prog.funcs[f]? = some fn) (hname : (fn.name == "runtime.NumGoroutine") = false) (hb : fn.body = some c) : Enters f := fun args W => by
  have h1 : fn.name ≠ "runtime.NumGoroutine" := by simpa using hname
  simp [callFunc, hf, h1, hb]
/-- what a closure tells of a line, wherever I holds -/
def Tells (f : FuncId) (ac : Array Value) (g : LnM → Bool) (I : World → Prop) : Prop := ∀ (x : LnM) W, I W → Calls Try.prog f (#[.agg #[.int .i64 x.c, .int .i64 x.n]] ++ ac) W fun e w' => e = .returned (.bool (g x)) ∧ Below W.heap.size W w'
def Keeps (I : World → Prop) (w : World) : Prop := ∀ W W', I W → w.heap.size ≤ W.heap.size → Below w.heap.size W W' → I W'
theorem Keeps.low {I : World → Prop} {w W W' : World} (h : Keeps I w) (hi : I W) (hs : w.heap.size ≤ W.heap.size) (hb : Below W.heap.size W W') : I W' := h W W' hi hs (hb.mono hs)
def wantN (g : LnM → Bool) (L : List LnM) : List Int := (L.filter g).map LnM.n
theorem wantN_next (g : LnM → Bool) (L : List LnM) (k : Nat) (h : k < L.length) : wantN g (L.take (k + 1)) = if g (L.getD k ln0) = true then wantN g (L.take k) ++ [(L.getD k ln0).n] else wantN g (L.take k) := by
  rw [ln_next L k h]
  unfold wantN
  rw [List.filter_append, List.map_append]
  by_cases hg : g (L.getD k ln0) = true
  · rw [if_pos hg, List.filter_cons_of_pos hg]; rfl
  · rw [if_neg hg, List.filter_cons_of_neg hg]; simp
theorem wantN_len (g : LnM → Bool) (L : List LnM) : (wantN g L).length ≤ L.length := by
  unfold wantN
  rw [List.length_map]
  exact List.length_filter_le g L
theorem wantN_in (g : LnM → Bool) (L : List LnM) (h : ∀ x ∈ L, inR x.n) : ∀ y ∈ wantN g L, inR y := by
  intro y hy
  unfold wantN at hy
  obtain ⟨x, hx, rfl⟩ := List.mem_map.1 hy
  exact h x (List.mem_filter.1 hx).1
set_option maxRecDepth 100000 in
set_option maxHeartbeats 800000 in
theorem total_with (f : FuncId) (ef : Enters f) (ac : Array Value) (g : LnM → Bool) (I : World → Prop) (w : World) (hI : Keeps I w) (hf : Tells f ac g I)
    (L : List LnM) (hL : L.length ≤ 1000) (hr : ∀ x ∈ L, inR x.n) (a : Option Addr) (cap : Nat) (hin : LnIn w a L) (h : I w) :
    Calls Try.prog 31 #[.slice a L.length cap, .func (.func f) #[] ac] w fun e w' => e = .returned (.tuple #[.int .i64 (sumV (wantN g L).sum), .int .i64 (sumE (wantN g L).sum)]) ∧ Below w.heap.size w w' := by
  obtain ⟨i0, hi, hz0, hz1, hz2⟩ := info_parts (show (Try.prog.info? 43).map (fun i => (i.zero, i.size, i.bytes)) = some (some (.int .i64 0), 1, 8) by kernel_rfl)
  have HI := hide hi
  have HZ0 := hide hz0
  have HZ1 := hide hz1
  have HZ2 := hide hz2
  have HF := hide hf
  have HK := hide hI
  have HIN := hide hin
  have H0 := hide h
  have HR := hide (wantN_in g L hr)
  unfold Enters at ef
  clear hi hz0 hz1 hz2 hf hI hin h hr
  go_enter Try.func31, Try.ntmps31
  go_wp2_with fail
  go_loopw [6, 11] (fun s i W => ∃ (k : Nat) (a6 : Option Addr) (c6 : Nat), k ≤ L.length ∧ i = .int .i64 k ∧ s = .slice a6 (wantN g (L.take k)).length c6 ∧ W.ownsRow w.heap.size 43 1 (.slice a6 (wantN g (L.take k)).length c6) (wantN g (L.take k)).length ((wantN g (L.take k)).map (Value.int .i64)) ∧ I W ∧ Below w.heap.size w W) (fun s i _ => L.length - (intOf i).toNat)
  case atStart => exact ⟨0, none, 0, by omega, rfl, rfl, World.ownsRow_nil _ _ _ _, H0.out, Below.refl _ _⟩
  case round =>
    obtain ⟨k, a6, c6, hk, rfl, rfl, hown, hi, hb⟩ := hrel
    have HB := hide hb
    have HO := hide hown
    have HIW := hide hi
    clear hown hb hi H0
    by_cases hlt : k < L.length
    · obtain ⟨b, off, rfl, hbl, c0, c1⟩ := (HIN.out.below HB.out) k hlt
      have HN := hide (wantN_next g L k hlt)
      have hll : (wantN g (L.take k)).length ≤ 1000 := by
        have h1 := wantN_len g (L.take k)
        rw [List.length_take] at h1
        omega
      generalize wantN g (L.take k) = M at *
      generalize L.getD k ln0 = x at *
      obtain ⟨xc, xn⟩ := x
      dsimp only at *
      have hbl1 : b < (wr.alloc (.cells #[.int .i64 xc, .int .i64 xn] 81)).heap.size := by simp; omega
      go_upto_region 5 with (fail)
      obtain ⟨ob, hob⟩ : ∃ ob, ob = (Obj.cells #[.int .i64 xc, .int .i64 xn] 81) := ⟨_, rfl⟩
      rw [← hob]
      have hal := (Below.refl wr.heap.size wr).alloc (Nat.le_refl _) ob
      have X1 := hide (show (wr.alloc ob).heap[wr.heap.size]? = some (.cells #[.int .i64 xc, .int .i64 xn] 81 (0, 0)) by rw [heap_new, hob])
      have O1 := hide (owns_below HO.out hal)
      have I1 := hide (HK.out.low HIW.out HB.out.size hal)
      have B1 := hide (HB.out.trans (hal.mono HB.out.size))
      clear hal HO HIW HB hbl hbl1 c0 c1
      generalize wr.alloc ob = w1 at *
      generalize wr.heap.size = q at *
      clear hob ob
      have d0 := cell_of_block X1.out 0
      have d1 := cell_of_block X1.out 1
      have HT := hide (HF.out ⟨xc, xn⟩ w1 I1.out)
      go_wp2_with fail
      refine HT.out.mono ?_
      rintro e w2 ⟨rfl, hb⟩
      have X2 := hide ((hb.block _ (heap_lt X1.out)).trans X1.out)
      have O2 := hide (owns_below O1.out hb)
      have I2 := hide (HK.out.low I1.out B1.out.size hb)
      have B2 := hide (B1.out.trans (hb.mono B1.out.size))
      clear hb X1 O1 I1 B1 d0 d1 HT
      generalize hg : g ⟨xc, xn⟩ = gv at *
      cases gv with
      | false =>
        rw [if_neg (by simp)] at HN
        go_wp2_with fail
        go_roundw
        case rel => exact ⟨k + 1, a6, c6, by omega, by go_num, by rw [HN.out], by rw [HN.out]; exact O2.out, I2.out, B2.out⟩
        case measure => simp [intOf]; omega
      | true =>
        rw [if_pos rfl] at HN
        have e1 := cell_of_block X2.out 1
        have hA := (Below.refl w2.heap.size w2).alloc (Nat.le_refl _) (.cells #[.int .i64 xn] 43)
        have HA := hide (owns_below O2.out hA)
        have HBA := hide (B2.out.alloc B2.out.size (.cells #[.int .i64 xn] 43))
        have IA := hide (HK.out.low I2.out B2.out.size hA)
        have hw5 : w.heap.size ≤ (w2.alloc (.cells #[.int .i64 xn] 43)).heap.size := HBA.out.size
        have HW5 := hide hw5
        have HNEW := hide (new_one w2 (.int .i64 xn) 43)
        have HGE := hide (fun j (h : (Value.slice a6 M.length c6).ownBlock = some j) => (HA.out.lt j h).1)
        clear hw5 O2 B2 hA
        go_wp2_with (at_builtin; refine wpList_append_own _ rfl _ _ 107 rfl w.heap.size 43 i0 (.int .i64 0) 1 8 Try.underlying107 HI.out HZ0.out HZ1.out HZ2.out rfl (by decide) (.slice a6 M.length c6) M.length (M.map (Value.int .i64)) rfl HA.out ⟨w2.heap.size, 0, none⟩ 1 1 [.int .i64 xn] rfl rfl HNEW.out (one_int _) (by unfold maxLen; omega) (by omega) HW5.out ?_; intro v' w' ho hgr hnil; obtain ⟨a3, c3', rfl⟩ := owns_slice_n ho; have HO6 := hide ho; have HB6 := hide (HBA.out.grown hgr HBA.out.size HGE.out); have I6 := hide (HK.out _ _ IA.out HBA.out.size ((Below.refl w.heap.size _).grown hgr HBA.out.size HGE.out)); clear ho hgr hnil)
        go_roundw
        case rel => exact ⟨k + 1, a3, c3', by omega, by go_num, by rw [HN.out]; simp, by rw [HN.out]; simpa using HO6.out, I6.out, HB6.out⟩
        case measure => simp [intOf]; omega
    · obtain rfl : k = L.length := by omega
      rw [List.take_length] at HO
      simp only [List.take_length]
      have HT := hide (total_owns (wantN g L) HR.out (by have := wantN_len g L; omega) a6 c6 _ wr HO.out)
      go_wp2_with fail
      refine HT.out.mono ?_
      rintro e w2 ⟨rfl, rfl⟩
      go_wp2_with fail
      go_ret2
      exact ⟨rfl, HB.out⟩
end Go.Proofs.Ytjjldphbflbbdaa
