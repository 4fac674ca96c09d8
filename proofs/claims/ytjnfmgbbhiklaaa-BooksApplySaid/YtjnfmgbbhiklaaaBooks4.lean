/-
  Layer 23: Trial: what stands above nothing, and below it.
-/
import Derived.Test.YtjnfmgbbhiklaaaBooks3

namespace Go.Proofs.Ytjnfmgbbhiklaaa
set_option linter.unusedSimpArgs false
set_option linter.unusedVariables false
open Go.RowKit Go.WideShapes Go.ChangeShapes Go.ChangeAt Go.Deep
/-- two slices of the call's own lie in unlike blocks -/
def ApartV (v u : Value) : Prop := ∀ g, v.ownBlock = some g → u.ownBlock ≠ some g
theorem ApartV.symm {v u : Value} (h : ApartV v u) : ApartV u v := fun g hg e => h g e hg
theorem apart_nil (u : Value) : ApartV (.slice none 0 0) u := fun g hg => by simp [Value.ownBlock] at hg
/-- a row stays where another one grows -/
theorem owns_apart {w w' : World} {B e m n : Nat} {v u : Value} {xs : List Value} (h : w.ownsRow B e m u n xs) (ha : ApartV v u) (hg : w.grownBy w' v.ownBlock) : w'.ownsRow B e m u n xs :=
  h.kept hg (by
    cases hu : u.ownBlock with
    | none => exact .inl rfl
    | some g => exact .inr fun e => ha g e.symm hu)
/-- behind an append the row lies apart from what it lay apart from -/
theorem apart_grown {w : World} {B e m n g c k : Nat} {v u : Value} {xs : List Value} (h : w.ownsRow B e m u n xs) (ha : ApartV v u) (hl : v.ownBlock = some g ∨ w.heap.size ≤ g) : ApartV (.slice (some ⟨g, 0, none⟩) k c) u := fun j hj => by
  simp only [Value.ownBlock, Option.some.injEq] at hj
  subst hj
  rcases hl with h1 | h1
  · exact ha _ h1
  · intro e
    have := (h.lt _ e).2
    omega
theorem above_next (M : List LnM) (k : Nat) (h : k < M.length) : aboveB (M.take (k + 1)) = if 0 < (M.getD k ln0).n then aboveB (M.take k) ++ [(M.getD k ln0).n] else aboveB (M.take k) := by
  rw [ln_next M k h]
  generalize M.getD k ln0 = x
  unfold aboveB
  rw [List.filter_append, List.map_append]
  by_cases hg : 0 < x.n
  · rw [if_pos hg, List.filter_cons_of_pos (by simpa using hg)]; rfl
  · rw [if_neg hg, List.filter_cons_of_neg (by simpa using hg)]; simp
theorem below_next (M : List LnM) (k : Nat) (h : k < M.length) : belowB (M.take (k + 1)) = if 0 < (M.getD k ln0).n then belowB (M.take k) else belowB (M.take k) ++ [(M.getD k ln0).n] := by
  rw [ln_next M k h]
  generalize M.getD k ln0 = x
  unfold belowB
  rw [List.filter_append, List.map_append]
  by_cases hg : 0 < x.n
  · rw [if_pos hg, List.filter_cons_of_neg (by simp [hg])]; simp
  · rw [if_neg hg, List.filter_cons_of_pos (by simpa using hg)]; rfl
theorem above_len (M : List LnM) : (aboveB M).length ≤ M.length := by unfold aboveB; rw [List.length_map]; exact List.length_filter_le _ M
theorem below_len (M : List LnM) : (belowB M).length ≤ M.length := by unfold belowB; rw [List.length_map]; exact List.length_filter_le _ M
theorem above_in (M : List LnM) (h : ∀ x ∈ M, inR x.n) : ∀ y ∈ aboveB M, inR y := fun y hy => by
  unfold aboveB at hy
  obtain ⟨x, hx, rfl⟩ := List.mem_map.1 hy
  exact h x (List.mem_filter.1 hx).1
theorem below_in (M : List LnM) (h : ∀ x ∈ M, inR x.n) : ∀ y ∈ belowB M, inR y := fun y hy => by
  unfold belowB at hy
  obtain ⟨x, hx, rfl⟩ := List.mem_map.1 hy
  exact h x (List.mem_filter.1 hx).1
/-- what Trial tells -/
def triE (M : List LnM) : Int := if ¬ inR (aboveB M).sum then 6 else trnE (belowB M).sum
def triD (M : List LnM) : Int := if triE M = 0 then (aboveB M).sum else 0
def triC (M : List LnM) : Int := if triE M = 0 then trnV (belowB M).sum else 0
def TriIs (M : List LnM) (w : World) (e : Ending) (w' : World) : Prop := e = .returned (.tuple #[.int .i64 (triD M), .int .i64 (triC M), .int .i64 (triE M)]) ∧ Below w.heap.size w w'
theorem trnE_or (s : Int) : trnE s = 0 ∨ trnE s = 6 := by
  unfold trnE sumE
  split
  · split
    · exact .inl rfl
    · exact .inr rfl
  · exact .inr rfl
set_option maxRecDepth 100000 in
set_option maxHeartbeats 1000000 in
theorem bktrial_any (N p bm : Nat) (M : List LnM) (hML : M.length ≤ 1000) (w : World) (h : BooksIs N w p bm M) :
    Calls Try.prog 12 #[.pointer (some ⟨p, 0, none⟩)] w (TriIs M w) := by
  obtain ⟨i0, hi, hz0, hz1, hz2⟩ := info_parts (show (Try.prog.info? 37).map (fun i => (i.zero, i.size, i.bytes)) = some (some (.int .i64 0), 1, 8) by kernel_rfl)
  have HI := hide hi
  have HZ0 := hide hz0
  have HZ1 := hide hz1
  have HZ2 := hide hz2
  have HL := hide (bklist_any N p bm M (by omega) w h)
  have HIA := hide (above_in M fun x hx => (h.ok x hx).1)
  have HIB := hide (below_in M fun x hx => (h.ok x hx).1)
  clear hi hz0 hz1 hz2 h
  go_enter Try.func12, Try.ntmps12
  go_wp2_with fail
  refine HL.out.mono ?_
  rintro e w1 ⟨la, lc, rfl, ho, hb⟩
  have HLO := hide (LnIn.of_owns ho)
  have HB1 := hide hb
  clear ho hb HL
  go_wp2_with fail
  go_loopw [5, 6, 15] (fun s u i W => ∃ (k : Nat) (a5 : Option Addr) (c5 : Nat) (a6 : Option Addr) (c6 : Nat), k ≤ M.length ∧ i = .int .i64 k ∧ s = .slice a5 (aboveB (M.take k)).length c5 ∧ u = .slice a6 (belowB (M.take k)).length c6 ∧ W.ownsRow w1.heap.size 37 1 (.slice a5 (aboveB (M.take k)).length c5) (aboveB (M.take k)).length ((aboveB (M.take k)).map (Value.int .i64)) ∧ W.ownsRow w1.heap.size 37 1 (.slice a6 (belowB (M.take k)).length c6) (belowB (M.take k)).length ((belowB (M.take k)).map (Value.int .i64)) ∧ ApartV (.slice a5 (aboveB (M.take k)).length c5) (.slice a6 (belowB (M.take k)).length c6) ∧ Below w1.heap.size w1 W) (fun s u i _ => M.length - (intOf i).toNat)
  case atStart => exact ⟨0, none, 0, none, 0, by omega, rfl, rfl, rfl, World.ownsRow_nil _ _ _ _, World.ownsRow_nil _ _ _ _, apart_nil _, Below.refl _ _⟩
  case round =>
    obtain ⟨k, a5, c5, a6, c6, hk, rfl, rfl, rfl, h5, h6, hap, hb⟩ := hrel
    have O5 := hide h5
    have O6 := hide h6
    have AP := hide hap
    have HB := hide hb
    clear h5 h6 hap hb
    by_cases hlt : k < M.length
    · obtain ⟨b, off, rfl, hbl, c0, c1⟩ := (HLO.out.below HB.out) k hlt
      have HNA := hide (above_next M k hlt)
      have HNB := hide (below_next M k hlt)
      have hla : (aboveB (M.take k)).length ≤ 1000 := by
        have h1 := above_len (M.take k)
        rw [List.length_take] at h1
        omega
      have hlb : (belowB (M.take k)).length ≤ 1000 := by
        have h1 := below_len (M.take k)
        rw [List.length_take] at h1
        omega
      generalize aboveB (M.take k) = X at *
      generalize belowB (M.take k) = Y at *
      generalize M.getD k ln0 = x at *
      obtain ⟨xc, xn⟩ := x
      dsimp only at *
      obtain ⟨ob, hob⟩ : ∃ ob, ob = (Obj.cells #[.int .i64 xc, .int .i64 xn] 76) := ⟨_, rfl⟩
      have hal := (Below.refl wr.heap.size wr).alloc (Nat.le_refl _) ob
      have X1 := hide (show (wr.alloc ob).heap[wr.heap.size]? = some (.cells #[.int .i64 xc, .int .i64 xn] 76 (0, 0)) by rw [heap_new, hob])
      have O5b := hide (owns_below O5.out hal)
      have O6b := hide (owns_below O6.out hal)
      have B1 := hide (HB.out.trans (hal.mono HB.out.size))
      go_upto_region 5 with (fail)
      rw [← hob]
      clear hal O5 O6 HB hbl c0 c1
      generalize wr.alloc ob = v1 at *
      generalize wr.heap.size = q at *
      clear hob ob
      have d0 := cell_of_block X1.out 0
      have d1 := cell_of_block X1.out 1
      have hA := (Below.refl v1.heap.size v1).alloc (Nat.le_refl _) (.cells #[.int .i64 xn] 37)
      have P5 := hide (owns_below O5b.out hA)
      have P6 := hide (owns_below O6b.out hA)
      have B2 := hide (B1.out.alloc B1.out.size (.cells #[.int .i64 xn] 37))
      have hw5 : w1.heap.size ≤ (v1.alloc (.cells #[.int .i64 xn] 37)).heap.size := B2.out.size
      have XN := hide (heap_new v1 (.cells #[.int .i64 xn] 37))
      clear hA O5b O6b B1
      by_cases hx : 0 < xn
      · rw [if_pos hx] at HNA HNB
        go_wp2_with (at_builtin; refine wpList_append_own2 _ rfl _ _ 72 rfl w1.heap.size 37 i0 (.int .i64 0) 1 8 Try.underlying72 HI.out HZ0.out HZ1.out HZ2.out rfl (by decide) (.slice a5 X.length c5) X.length (X.map (Value.int .i64)) rfl P5.out ⟨v1.heap.size, 0, none⟩ 1 1 (by decide) [.int .i64 xn] rfl rfl (cells_new XN.out) (one_int _) (by unfold maxLen; omega) (by omega) hw5 ?_; intro g3 c3' w3 ho hgr hnil; have Q5 := hide ho; have Q6 := hide (owns_apart P6.out AP.out hgr); have AQ := hide (apart_grown (k := X.length + 1) (c := c3') P6.out AP.out hnil); have B3 := hide (B2.out.grown hgr B2.out.size (fun jj hj => (P5.out.lt jj hj).1)); clear ho hgr hnil)
        go_roundw
        case rel => exact ⟨k + 1, some ⟨g3, 0, none⟩, c3', a6, c6, by omega, by go_num, by rw [HNA.out]; simp, by rw [HNB.out], by rw [HNA.out]; simpa using Q5.out, by rw [HNB.out]; exact Q6.out, by rw [HNA.out, HNB.out]; simpa using AQ.out, B3.out⟩
        case measure => simp [intOf]; omega
      · rw [if_neg hx] at HNA HNB
        go_wp2_with (at_builtin; refine wpList_append_own2 _ rfl _ _ 72 rfl w1.heap.size 37 i0 (.int .i64 0) 1 8 Try.underlying72 HI.out HZ0.out HZ1.out HZ2.out rfl (by decide) (.slice a6 Y.length c6) Y.length (Y.map (Value.int .i64)) rfl P6.out ⟨v1.heap.size, 0, none⟩ 1 1 (by decide) [.int .i64 xn] rfl rfl (cells_new XN.out) (one_int _) (by unfold maxLen; omega) (by omega) hw5 ?_; intro g3 c3' w3 ho hgr hnil; have Q6 := hide ho; have Q5 := hide (owns_apart P5.out AP.out.symm hgr); have AQ := hide (apart_grown (k := Y.length + 1) (c := c3') P5.out AP.out.symm hnil).symm; have B3 := hide (B2.out.grown hgr B2.out.size (fun jj hj => (P6.out.lt jj hj).1)); clear ho hgr hnil)
        go_roundw
        case rel => exact ⟨k + 1, a5, c5, some ⟨g3, 0, none⟩, c3', by omega, by go_num, by rw [HNA.out], by rw [HNB.out]; simp, by rw [HNA.out]; exact Q5.out, by rw [HNB.out]; simpa using Q6.out, by rw [HNA.out, HNB.out]; simpa using AQ.out, B3.out⟩
        case measure => simp [intOf]; omega
    · obtain rfl : k = M.length := by omega
      rw [List.take_length] at O5 O6 AP
      simp only [List.take_length]
      have HLA := above_len M
      have HLB := below_len M
      have HT5 := hide (total_owns (aboveB M) HIA.out (by omega) a5 c5 _ wr O5.out)
      have HT6 := hide (turned_with (.slice a6 (belowB M).length c6) (belowB M).sum wr (total_owns (belowB M) HIB.out (by omega) a6 c6 _ wr O6.out))
      have hE : triE M = if ¬ inR (aboveB M).sum then 6 else trnE (belowB M).sum := rfl
      have hD : triD M = if triE M = 0 then (aboveB M).sum else 0 := rfl
      have hC : triC M = if triE M = 0 then trnV (belowB M).sum else 0 := rfl
      have HBB := hide (HB1.out.trans (HB.out.mono HB1.out.size))
      have HEO := hide (trnE_or (belowB M).sum)
      have hend : ∀ (d c f : Int) (w' : World), triD M = d → triC M = c → triE M = f → Below w.heap.size w w' → TriIs M w (.returned (.tuple #[.int .i64 d, .int .i64 c, .int .i64 f])) w' := fun _ _ _ _ h1 h2 h3 h4 => ⟨by rw [h1, h2, h3], h4⟩
      have HEND := hide hend
      clear hend
      by_cases hs : inR (aboveB M).sum
      · obtain ⟨h1, h2⟩ := sum_in hs
        rw [h1, h2] at HT5
        rw [if_neg (fun h => h hs)] at hE
        clear h1 h2 hs O5 O6 AP HLA HLB
        rcases HEO.out with he | he
        · rw [he] at hE HT6
          rw [hE, if_pos rfl] at hD hC
          have HE := hide hE
          have HD := hide hD
          have HC := hide hC
          generalize trnV (belowB M).sum = uV at *
          generalize (aboveB M).sum = sA at *
          clear hD hC hE he HEO
          go_wp2_with fail
          refine HT5.out.mono ?_
          rintro e w2 ⟨rfl, rfl⟩
          go_wp2_with fail
          refine HT6.out.mono ?_
          rintro e w2 ⟨rfl, rfl⟩
          go_wp2_with fail
          go_ret3
          exact HEND.out _ _ _ _ HD.out HC.out HE.out HBB.out
        · rw [he] at hE HT6
          rw [hE, if_neg (by decide)] at hD hC
          have HE := hide hE
          have HD := hide hD
          have HC := hide hC
          generalize trnV (belowB M).sum = uV at *
          generalize (aboveB M).sum = sA at *
          clear hD hC hE he HEO
          go_wp2_with fail
          refine HT5.out.mono ?_
          rintro e w2 ⟨rfl, rfl⟩
          go_wp2_with fail
          refine HT6.out.mono ?_
          rintro e w2 ⟨rfl, rfl⟩
          go_wp2_with fail
          go_ret3
          exact HEND.out _ _ _ _ HD.out HC.out HE.out HBB.out
      · obtain ⟨h1, h2⟩ := sum_out hs
        rw [h1, h2] at HT5
        rw [if_pos hs] at hE
        rw [hE, if_neg (by decide)] at hD hC
        have HE := hide hE
        have HD := hide hD
        have HC := hide hC
        clear hD hC hE h1 h2 hs O5 O6 AP HLA HLB
        go_wp2_with fail
        refine HT5.out.mono ?_
        rintro e w2 ⟨rfl, rfl⟩
        go_wp2_with fail
        go_ret3
        exact HEND.out _ _ _ _ HD.out HC.out HE.out HBB.out
end Go.Proofs.Ytjnfmgbbhiklaaa
