/-
  Layer 25: kinds; closures; numbers.
-/
import Derived.Test.YtbnbfnlfgmlcgaaSale8
--import Derived.Test.Zdbg
namespace Go.Proofs.Ytbnbfnlfgmlcgaa
set_option linter.unusedSimpArgs false
set_option linter.unusedVariables false
open Go.RowKit Go.WideShapes Go.ChangeShapes Go.ChangeAt Go.Deep

def KindsIn (w : World) (a : Option Addr) (K : List Int) : Prop := ∀ i, i < K.length → ∃ b off, a = some ⟨b, off, none⟩ ∧ b < w.heap.size ∧ w.cell? ⟨b, off + i, none⟩ = some (.int .u8 (K.getD i 0))
theorem KindsIn.below {w w' : World} {a : Option Addr} {K : List Int} (h : KindsIn w a K) (hb : Below w.heap.size w w') : KindsIn w' a K := fun i hi => by
  obtain ⟨b, off, h1, h2, h3⟩ := h i hi
  exact ⟨b, off, h1, Nat.lt_of_lt_of_le h2 hb.size, cell_keep h3 h2 hb⟩
set_option maxRecDepth 100000 in
theorem kindex_any (K : List Int) (a : Option Addr) (cap : Nat) (x : Int) (w : World) (hv : KindsIn w a K) (hl : K.length ≤ 10) :
    Calls Try.prog 70 #[.slice a K.length cap, .int .u8 x] w fun e w' => ∃ r : Int, e = .returned (.int .i64 r) ∧ (0 ≤ r ↔ x ∈ K) ∧ w = w' := by
  have HAT := hide hv
  clear hv
  go_enter Try.func70, Try.ntmps70
  go_wp2_with fail
  go_loopw [8] (fun i W => ∃ k : Nat, k ≤ K.length ∧ i = .int .i64 k ∧ x ∉ K.take k ∧ w = W) (fun i _ => K.length - (intOf i).toNat)
  case atStart => exact ⟨0, by omega, rfl, by simp, rfl⟩
  case round =>
    obtain ⟨k, hk, rfl, hx, rfl⟩ := hrel
    have HX := hide hx
    clear hx
    by_cases hlt : k < K.length
    · obtain ⟨b, off, rfl, hb, c⟩ := HAT.out k hlt
      have HG := hide (show K.take (k + 1) = K.take k ++ [K.getD k 0] by rw [List.take_add_one]; simp [List.getD, hlt])
      have HM := hide (show K.getD k 0 ∈ K by simp [List.getD, hlt])
      clear hb
      generalize K.getD k 0 = y at *
      by_cases hxy : x = y
      · subst hxy
        go_wp2_with fail
        go_ret
        exact ⟨k, rfl, ⟨fun _ => HM.out, fun _ => by omega⟩, rfl⟩
      · go_wp2_with fail
        go_roundw
        case rel => exact ⟨k + 1, by omega, by go_num, by rw [HG.out]; simp only [List.mem_append, List.mem_singleton]; exact ⟨fun h => h.elim HX.out hxy, trivial⟩⟩
        case measure => simp [intOf]; omega
    · obtain rfl : k = K.length := by omega
      rw [List.take_length] at HX
      go_wp2_with fail
      go_ret
      exact ⟨-1, rfl, ⟨fun h => by omega, fun h => absurd h HX.out⟩, rfl⟩
theorem kcontains_any (K : List Int) (a : Option Addr) (cap : Nat) (x : Int) (w : World) (hv : KindsIn w a K) (hl : K.length ≤ 10) :
    Calls Try.prog 66 #[.slice a K.length cap, .int .u8 x] w fun e w' => e = .returned (.bool (decide (x ∈ K))) ∧ w = w' := by
  have HI := hide (kindex_any K a cap x w hv hl)
  clear hv hl
  go_enter Try.func66, Try.ntmps66
  go_wp2_with fail
  refine HI.out.mono ?_
  rintro e w1 ⟨r, rfl, hr, rfl⟩
  have HR := hide (show decide (0 ≤ r) = decide (x ∈ K) from decide_eq_decide.2 hr)
  clear hr
  go_wp2_with fail
  go_ret
  exact ⟨by rw [← HR.out]; rfl, rfl⟩
set_option maxRecDepth 100000 in
theorem contains_with (f : FuncId) (ef : Enters f) (ac : Array Value) (g : LnM → Bool) (I : World → Prop) (w : World) (hI : Keeps I w) (hf : Tells f ac g I)
    (L : List LnM) (hL : L.length ≤ 1000) (a : Option Addr) (cap : Nat) (hin : LnIn w a L) (h : I w) :
    Calls Try.prog 62 #[.slice a L.length cap, .func (.func f) #[] ac] w fun e w' => e = .returned (.bool (L.any g)) ∧ Below w.heap.size w w' := by
  have HT := hide (indexFunc_with f ef ac g I w hI hf L hL a cap hin h)
  clear ef hI hf hin h
  go_enter Try.func62, Try.ntmps62
  go_wp2_with fail
  refine HT.out.mono ?_
  rintro e w1 ⟨r, rfl, hr, hb⟩
  have HB := hide hb
  have hq : (0 ≤ r) = ((L.any g) = true) := propext hr
  have HQ := hide (show decide (0 ≤ r) = L.any g from by
    cases hz : L.any g with
    | true => rw [hz] at hq; exact decide_eq_true (by rw [hq])
    | false => rw [hz] at hq; exact decide_eq_false (by rw [hq]; decide))
  clear hb hr hq HT
  go_wp2_with fail
  go_ret
  exact ⟨by rw [← HQ.out]; rfl, HB.out⟩
set_option maxRecDepth 100000 in
theorem wants1_tells (acct : Int) (q : Nat) : Tells 65 #[.pointer (some ⟨q, 0, none⟩)] (fun x => decide (x.c = acct)) (fun W => W.cell? ⟨q, 2, none⟩ = some (.int .i64 acct)) := by
  intro x w hc
  obtain ⟨xc, xn⟩ := x
  have hq : q < w.heap.size := World.block_lt_of_cell? w _ hc
  have h2 := (World.cell?_alloc_old w (.cells #[.int .i64 xc, .int .i64 xn] 80) ⟨q, 2, none⟩ (by show q ≠ _; omega)).trans hc
  have HQ := hide hq
  clear hc hq
  show Calls Try.prog 65 #[.agg #[.int .i64 xc, .int .i64 xn], .pointer (some ⟨q, 0, none⟩)] w fun e w' => e = .returned (.bool (decide (xc = acct))) ∧ Below w.heap.size w w'
  go_enter Try.func65, Try.ntmps65
  go_wp2_with fail
  go_ret
  exact ⟨by simp <;> rfl, (Below.refl _ _).alloc (Nat.le_refl _) _⟩
/-- what a function tells of a transaction, wherever I holds -/
def TellsT (f : FuncId) (bd ac : Array Value) (g : TxM → Bool) (I : World → Prop) : Prop := ∀ (x : TxA) W, TxOk x.t → LnT W x.la x.t.L → I W → Calls Try.prog f (bd ++ #[txV x] ++ ac) W fun e w' => e = .returned (.bool (g x.t)) ∧ Below W.heap.size W w'
def wantM (g : TxM → Bool) (M : List TxM) : List Int := (M.filter g).map (·.num)
theorem wantM_next (g : TxM → Bool) (M : List TxM) (k : Nat) (h : k < M.length) : wantM g (M.take (k + 1)) = if g (M.getD k tx0) = true then wantM g (M.take k) ++ [(M.getD k tx0).num] else wantM g (M.take k) := by
  have e : M.take (k + 1) = M.take k ++ [M.getD k tx0] := by
    rw [List.take_add_one, List.getElem?_eq_getElem h]
    simp [List.getD, h]
  rw [e]
  unfold wantM
  rw [List.filter_append, List.map_append]
  by_cases hg : g (M.getD k tx0) = true
  · rw [if_pos hg, List.filter_cons_of_pos hg]; rfl
  · rw [if_neg hg, List.filter_cons_of_neg hg]; simp
theorem wantM_len (g : TxM → Bool) (M : List TxM) : (wantM g M).length ≤ M.length := by
  unfold wantM
  rw [List.length_map]
  exact List.length_filter_le g M
def NumbersIs (l : List Int) (w : World) (e : Ending) (w' : World) : Prop := ∃ (a : Option Addr) (c : Nat), e = .returned (.slice a l.length c) ∧ w'.ownsRow w.heap.size 3 1 (.slice a l.length c) l.length (l.map (Value.int .i64)) ∧ Below w.heap.size w w'
set_option maxRecDepth 100000 in
set_option maxHeartbeats 1000000 in
theorem numbers_with (f : FuncId) (ef : Enters f) (bd ac : Array Value) (g : TxM → Bool) (I : World → Prop) (w : World) (hI : Keeps I w) (hf : TellsT f bd ac g I)
    (B p : Nat) (keep next : Int) (v : Value) (T : List TxA) (hr : RegAt w B p keep next v T) (h : I w) :
    Calls Try.prog 47 #[.pointer (some ⟨p, 0, none⟩), .func (.func f) bd ac] w (NumbersIs (wantM g (T.map (·.t))) w) := by
  obtain ⟨i0, hi, hz0, hz1, hz2⟩ := info_parts (show (Try.prog.info? 3).map (fun i => (i.zero, i.size, i.bytes)) = some (some (.int .i64 0), 1, 8) by kernel_rfl)
  have HI := hide hi
  have HZ0 := hide hz0
  have HZ1 := hide hz1
  have HZ2 := hide hz2
  have HF := hide hf
  have HK := hide hI
  have H0 := hide h
  obtain ⟨a, cap, rfl⟩ := hr.row.split
  have HFW := hide (show T.length ≤ 512 by have := hr.few; have := hr.kp; omega)
  have RG := hide hr
  have c2 := cell_of_block hr.head 2
  unfold Enters at ef
  clear hi hz0 hz1 hz2 hf hI h hr
  go_enter Try.func47, Try.ntmps47
  go_wp2_with fail
  clear c2
  go_loopw [5, 15] (fun s i W => ∃ (k : Nat) (a6 : Option Addr) (c6 : Nat), k ≤ T.length ∧ i = .int .i64 k ∧ s = .slice a6 (wantM g ((T.map (·.t)).take k)).length c6 ∧ W.ownsRow w.heap.size 3 1 (.slice a6 (wantM g ((T.map (·.t)).take k)).length c6) (wantM g ((T.map (·.t)).take k)).length ((wantM g ((T.map (·.t)).take k)).map (Value.int .i64)) ∧ I W ∧ Below w.heap.size w W) (fun s i _ => T.length - (intOf i).toNat)
  case atStart => exact ⟨0, none, 0, by omega, rfl, rfl, World.ownsRow_nil _ _ _ _, H0.out, Below.refl _ _⟩
  case round =>
    obtain ⟨k, a6, c6, hk, rfl, rfl, hown, hi, hb⟩ := hrel
    have HB := hide hb
    have HO := hide hown
    have HIW := hide hi
    clear hown hb hi H0
    by_cases hlt : k < T.length
    · obtain ⟨b, o, rfl, hg1, hg2, hcell, hfz⟩ := OffRow.rows txC txC_length ta0 (RG.out.below HB.out).row rfl (by decide) k hlt
      have hmy : T.getD k ta0 ∈ T := by simp [List.getD, hlt]
      have HLN := hide ((RG.out.below HB.out).lines _ hmy)
      have HOKX := hide (RG.out.ok _ (List.mem_map.2 ⟨_, hmy, rfl⟩)).1
      have HN := hide (wantM_next g (T.map (·.t)) k (by rw [List.length_map]; exact hlt))
      have hdt : (T.map (·.t)).getD k tx0 = (T.getD k ta0).t := by simp only [List.getD, List.getElem?_map, List.getElem?_eq_getElem hlt]; rfl
      rw [hdt] at HN
      have hll : (wantM g ((T.map (·.t)).take k)).length ≤ 512 := by
        have h1 := wantM_len g ((T.map (·.t)).take k)
        rw [List.length_take, List.length_map] at h1
        have := HFW.out
        omega
      have HLL := hide hll
      have HC3 := hide hcell
      clear hcell hfz hg1 hg2 hmy hdt hll
      generalize wantM g ((T.map (·.t)).take k) = M at *
      generalize T.getD k ta0 = y at *
      have c0 : wr.cell? ⟨b, o + k * 8, none⟩ = some (.int .i64 y.t.num) := HC3.out 0 (by decide)
      have c1 : wr.cell? ⟨b, o + k * 8 + 1, none⟩ = some (.int .u8 y.t.kind) := HC3.out 1 (by decide)
      have c2 : wr.cell? ⟨b, o + k * 8 + 2, none⟩ = some (.int .i64 y.t.shift) := HC3.out 2 (by decide)
      have c3 : wr.cell? ⟨b, o + k * 8 + 3, none⟩ = some (.int .i64 y.t.ref) := HC3.out 3 (by decide)
      have c4' : wr.cell? ⟨b, o + k * 8 + 4, none⟩ = some (.int .i64 y.t.amt) := HC3.out 4 (by decide)
      have c5 : wr.cell? ⟨b, o + k * 8 + 5, none⟩ = some (.int .i64 y.t.left) := HC3.out 5 (by decide)
      have c6' : wr.cell? ⟨b, o + k * 8 + 6, none⟩ = some (.bool y.t.void) := HC3.out 6 (by decide)
      have c7 : wr.cell? ⟨b, o + k * 8 + 7, none⟩ = some (.slice y.la y.t.L.length y.lc) := HC3.out 7 (by decide)
      obtain ⟨ob, hob⟩ : ∃ ob, ob = (Obj.cells #[.int .i64 y.t.num, .int .u8 y.t.kind, .int .i64 y.t.shift, .int .i64 y.t.ref, .int .i64 y.t.amt, .int .i64 y.t.left, .bool y.t.void, .slice y.la y.t.L.length y.lc] 35) := ⟨_, rfl⟩
      have hal := (Below.refl wr.heap.size wr).alloc (Nat.le_refl _) ob
      have X1 := hide (show (wr.alloc ob).heap[wr.heap.size]? = some (.cells #[.int .i64 y.t.num, .int .u8 y.t.kind, .int .i64 y.t.shift, .int .i64 y.t.ref, .int .i64 y.t.amt, .int .i64 y.t.left, .bool y.t.void, .slice y.la y.t.L.length y.lc] 35 (0, 0)) by rw [heap_new, hob])
      have O1 := hide (owns_below HO.out hal)
      have I1 := hide (HK.out.low HIW.out HB.out.size hal)
      have B1 := hide (HB.out.trans (hal.mono HB.out.size))
      have L1 := hide (HLN.out.below hal)
      go_upto_region 7 with (fail)
      rw [← hob]
      clear hal HO HIW HB HLN HC3 c0 c1 c2 c3 c4' c5 c6' c7
      generalize wr.alloc ob = w1 at *
      generalize wr.heap.size = q at *
      clear hob ob
      have d0 := cell_of_block X1.out 0
      have d1 := cell_of_block X1.out 1
      have d2 := cell_of_block X1.out 2
      have d3 := cell_of_block X1.out 3
      have d4 := cell_of_block X1.out 4
      have d5 := cell_of_block X1.out 5
      have d6 := cell_of_block X1.out 6
      have d7 := cell_of_block X1.out 7
      have HT := hide (HF.out y w1 HOKX.out L1.out I1.out)
      unfold txV txC at HT
      go_wp2_with fail
      refine HT.out.mono ?_
      rintro e w2 ⟨rfl, hb⟩
      have X2 := hide ((hb.block _ (heap_lt X1.out)).trans X1.out)
      have O2 := hide (owns_below O1.out hb)
      have I2 := hide (HK.out.low I1.out B1.out.size hb)
      have B2 := hide (B1.out.trans (hb.mono B1.out.size))
      clear hb X1 O1 I1 B1 L1 d0 d1 d2 d3 d4 d5 d6 d7 HT
      have hfw := HFW.out
      generalize hg : g y.t = gv at *
      cases gv with
      | false =>
        rw [if_neg (by simp)] at HN
        go_wp2_with fail
        go_roundw
        case rel => exact ⟨k + 1, a6, c6, by omega, by go_num, by rw [HN.out], by rw [HN.out]; exact O2.out, I2.out, B2.out⟩
        case measure => simp [intOf]; omega
      | true =>
        rw [if_pos rfl] at HN
        generalize y.t.num = yn at *
        have e0 := cell_of_block X2.out 0
        have hA := (Below.refl w2.heap.size w2).alloc (Nat.le_refl _) (.cells #[.int .i64 yn] 3)
        have HA := hide (owns_below O2.out hA)
        have HBA := hide (B2.out.alloc B2.out.size (.cells #[.int .i64 yn] 3))
        have IA := hide (HK.out.low I2.out B2.out.size hA)
        have HW5 := hide (show w.heap.size ≤ (w2.alloc (.cells #[.int .i64 yn] 3)).heap.size from HBA.out.size)
        have HNEW := hide (cells_new (heap_new w2 (.cells ([.int .i64 yn] : List Value).toArray 3)))
        have HGE := hide (fun j (h : (Value.slice a6 M.length c6).ownBlock = some j) => (HA.out.lt j h).1)
        have hll := HLL.out
        clear O2 B2 hA
        go_wp2_with (at_builtin; refine wpList_append_own2 _ rfl _ _ 45 rfl w.heap.size 3 i0 (.int .i64 0) 1 8 Try.underlying45 HI.out HZ0.out HZ1.out HZ2.out rfl (by decide) (.slice a6 M.length c6) M.length (M.map (Value.int .i64)) rfl HA.out ⟨w2.heap.size, 0, none⟩ 1 1 (by decide) [.int .i64 yn] rfl rfl HNEW.out (by simp [Value.oneCell']) (by unfold maxLen; omega) (by omega) HW5.out ?_; intro a3 c3' w' ho hgr hnil; have HO6 := hide ho; have HB6 := hide (HBA.out.grown hgr HBA.out.size HGE.out); have I6 := hide (HK.out _ _ IA.out HBA.out.size ((Below.refl w.heap.size _).grown hgr HBA.out.size HGE.out)); clear ho hgr hnil)
        go_roundw
        case rel => exact ⟨k + 1, some ⟨a3, 0, none⟩, c3', by omega, by go_num, by rw [HN.out]; simp, by rw [HN.out]; simpa using HO6.out, I6.out, HB6.out⟩
        case measure => simp [intOf]; omega
    · obtain rfl : k = T.length := by omega
      have htk : (T.map (·.t)).take T.length = T.map (·.t) := List.take_of_length_le (by rw [List.length_map]; exact Nat.le_refl _)
      rw [htk] at HO
      rw [htk]
      clear htk
      go_wp2_with fail
      go_ret
      exact ⟨a6, c6, rfl, HO.out, HB.out⟩
end Go.Proofs.Ytbnbfnlfgmlcgaa
