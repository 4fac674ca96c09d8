/-
  Layer 25: copies of lines; copied; find; takesBack.
-/
import Derived.Test.YtbnbfnlfgmlcgaaSale
import Derived.Test.YtbnbfnlfgmlcgaaKitRow
--import Derived.Test.Zdbg
namespace Go.Proofs.Ytbnbfnlfgmlcgaa
set_option linter.unusedSimpArgs false
set_option linter.unusedVariables false
open Go.RowKit Go.WideShapes Go.ChangeShapes Go.ChangeAt Go.Deep

theorem lnIn_cells {w : World} {b off : Nat} {L : List LnM} (h : LnIn w (some ⟨b, off, none⟩) L) : ∀ (j : Nat) (u : Value), (L.flatMap lnC)[j]? = some u → w.cell? ((⟨b, off, none⟩ : Addr).add j) = some u := fun j u hu => by
  have hj : j < L.length * 2 := by rw [← lnsC_length]; exact (List.getElem?_eq_some_iff.1 hu).1
  obtain ⟨b', off', ha, hb, c0, c1⟩ := h (j / 2) (by omega)
  simp only [Option.some.injEq, Addr.mk.injEq, and_true] at ha
  obtain ⟨rfl, rfl⟩ := ha
  rw [Go.WideShapes.add_plain]
  have e := flat_at lnC 2 lnC_length ln0 L (j / 2) (j % 2) (by omega) (Nat.mod_lt _ (by decide))
  rw [show j / 2 * 2 + j % 2 = j by omega, hu] at e
  have hr : j % 2 = 0 ∨ j % 2 = 1 := by omega
  rcases hr with hr | hr
  · rw [hr] at e
    rw [show off + j = off + j / 2 * 2 by omega, c0, e]; rfl
  · rw [hr] at e
    rw [show off + j = off + j / 2 * 2 + 1 by omega, c1, e]; rfl
theorem lns_one (L : List LnM) : ∀ u ∈ L.flatMap lnC, u.oneCell' = true := fun u hu => by
  obtain ⟨x, -, hx⟩ := List.mem_flatMap.1 hu
  exact lnC_one x u hx
theorem below_dn {B : Nat} {a b : World} (h : Below B a b) (n : Nat) : Below B a (b.drewN n) := ⟨h.os, h.tape, h.output, h.size, h.block⟩
theorem drewN_add (w : World) (a b : Nat) : (w.drewN a).drewN b = w.drewN (a + b) := by simp [World.drewN, Nat.add_assoc]
def LinesT (L : List LnM) (w : World) (e : Ending) (w' : World) : Prop := ∃ (a : Option Addr) (c : Nat), e = .returned (.slice a L.length c) ∧ LnT w' a L ∧ Below w.heap.size w w'
set_option maxRecDepth 100000 in
set_option maxHeartbeats 1000000 in
theorem clone_lines (L : List LnM) (hL : L.length ≤ 1000) (a : Option Addr) (cap : Nat) (w : World) (hin : LnIn w a L) :
    Calls Try.prog 64 #[.slice a L.length cap] w (LinesT L w) := by
  obtain ⟨i0, hi, hz0, hz1, hz2⟩ := info_parts (show (Try.prog.info? 80).map (fun i => (i.zero, i.size, i.bytes)) = some (some (.agg #[.int .i64 0, .int .i64 0]), 2, 16) by kernel_rfl)
  have HI := hide hi
  have HZ0 := hide hz0
  have HZ1 := hide hz1
  have HZ2 := hide hz2
  have HIN := hide hin
  clear hi hz0 hz1 hz2 hin
  cases a with
  | none =>
    obtain rfl : L = [] := by
      cases L with
      | nil => rfl
      | cons x L => obtain ⟨b, off, ha, -⟩ := HIN.out 0 (by simp); cases ha
    have hnil : ∀ W, (binOp BinOp.eql 33 (.slice none 0 cap) (.slice none 0 0)).run Try.prog W = .ok (.bool true) W := fun W => by kernel_rfl
    rw [show ([] : List LnM).length = 0 from rfl]
    go_enter Try.func64, Try.ntmps64
    go_wp2_with fail
    go_ret
    exact ⟨none, 0, rfl, LnT.nil _ _, Below.refl _ _⟩
  | some ad =>
    have hnil : ∀ n W, (binOp BinOp.eql 33 (.slice (some ad) n cap) (.slice none 0 0)).run Try.prog W = .ok (.bool false) W := fun n W => by kernel_rfl
    have hal := (Below.refl w.heap.size w).alloc (Nat.le_refl _) (.cells #[] 80)
    have BA := hide hal
    have XN := hide (heap_new w (.cells #[] 80))
    by_cases h0 : L = []
    · subst h0
      have hap : ∀ ty, (Builtin.append_ #[33, 33] ty #[.slice (some ⟨w.heap.size, 0, none⟩) 0 0, .slice (some ad) 0 cap]).run Try.prog (w.alloc (.cells #[] 80)) = .ok (.slice (some ⟨w.heap.size, 0, none⟩) 0 0) (w.alloc (.cells #[] 80)) := fun ty =>
        run_append_room_cells (P := Try.prog) _ 33 ty 80 i0 Try.underlying33 HI.out w.heap.size 0 0 0 ad 0 cap [] (by simp) (fun j u h => by simp at h) (by simp) (Nat.le_refl _) (fun j h => by simp at h) (fun j h => by simp at h)
      rw [show ([] : List LnM).length = 0 from rfl]
      go_enter Try.func64, Try.ntmps64
      go_wp2_with fail
      go_ret
      exact ⟨some ⟨w.heap.size, 0, none⟩, 0, rfl, LnT.nil _ _, BA.out⟩
    · have hpos : 0 < L.length := List.length_pos_iff.2 h0
      obtain ⟨b, off, ha, -⟩ := HIN.out 0 hpos
      simp only [Option.some.injEq] at ha
      subst ha
      have HCL := hide (lnIn_cells (HIN.out.below hal))
      have OE := hide (show (w.alloc (.cells #[] 80)).ownsRow w.heap.size 80 2 (.slice (some ⟨w.heap.size, 0, none⟩) 0 0) 0 [] from ⟨rfl, .inr ⟨w.heap.size, 0, #[], rfl, Nat.le_refl _, XN.out, Nat.le_refl _, by decide, rfl, rfl⟩⟩)
      have hw2 : w.heap.size ≤ (w.alloc (.cells #[] 80)).heap.size := BA.out.size
      have HLC := hide (lnsC_length L)
      clear hal h0
      go_enter Try.func64, Try.ntmps64
      go_wp2_with (at_builtin; refine wpList_append_own2 _ rfl _ _ 33 rfl w.heap.size 80 i0 (.agg #[.int .i64 0, .int .i64 0]) 2 16 Try.underlying33 HI.out HZ0.out HZ1.out HZ2.out rfl (by decide) (.slice (some ⟨w.heap.size, 0, none⟩) 0 0) 0 [] rfl OE.out ⟨b, off, none⟩ L.length cap hpos (L.flatMap lnC) rfl HLC.out HCL.out (lns_one L) (by unfold maxLen; omega) (by omega) hw2 ?_; intro g3 c3' w3 ho hgr hnil; have O3 := hide ho; have B3 := hide (BA.out.grown hgr BA.out.size (fun jj hj => (OE.out.lt jj hj).1)); clear ho hgr hnil)
      go_ret
      rw [Nat.zero_add, List.nil_append] at O3
      exact ⟨some ⟨g3, 0, none⟩, c3', rfl, LnT.of_owns O3.out, B3.out⟩
theorem LnT.turned {w : World} {p : Nat} {c : Array Value} {t : TypeId} {fz : Nat × Nat} {a : Option Addr} {L : List LnM} (h : LnT w a L) (hp : w.heap[p]? = some (.cells c t fz)) (ht : 80 ≠ t) (j : Nat) (u : Value) : LnT (w.setCell ⟨p, j, none⟩ u) a L :=
  h.keepsT (KeepsT.setCell (Ts := [t]) hp (by simp) j u) (by simpa using ht)
def CopiedT (t : TxM) (w : World) (e : Ending) (w' : World) : Prop := ∃ (a : Option Addr) (c : Nat), e = .returned (txV ⟨t, a, c⟩) ∧ LnT w' a t.L ∧ Below w.heap.size w w'
theorem tx_info (x : TxA) : (Try.prog.info? 35).map (·.size) = some (txC x).toArray.size := by
  show _ = some 8
  kernel_rfl
theorem txC_all (x : TxA) : (txC x).toArray.all (·.oneCell') = true := by simp [txC, Value.oneCell']
set_option maxRecDepth 100000 in
set_option maxHeartbeats 1000000 in
theorem copied_any (x : TxA) (hf : x.t.L.length ≤ 1000) (w : World) (hin : LnIn w x.la x.t.L) :
    Calls Try.prog 44 #[txV x] w (CopiedT x.t w) := by
  obtain ⟨t, la, lc⟩ := x
  dsimp only at hf hin
  obtain ⟨o1, ho1⟩ : ∃ ob, ob = (Obj.cells (txC ⟨t, la, lc⟩).toArray 35) := ⟨_, rfl⟩
  obtain ⟨o2, ho2⟩ : ∃ ob, ob = (Obj.cells #[.int .i64 0, .int .u8 0, .int .i64 0, .int .i64 0, .int .i64 0, .int .i64 0, .bool false, .slice none 0 0] 35) := ⟨_, rfl⟩
  have hal := (Below.refl w.heap.size w).alloc (Nat.le_refl _) o1
  have hal2 := hal.alloc hal.size o2
  have X1 := hide (show ((w.alloc o1).alloc o2).heap[w.heap.size]? = some (.cells (txC ⟨t, la, lc⟩).toArray 35 (0, 0)) by rw [heap_old _ _ _ (by simp), heap_new, ho1])
  have X2 := hide (show ((w.alloc o1).alloc o2).heap[w.heap.size + 1]? = some (.cells #[.int .i64 0, .int .u8 0, .int .i64 0, .int .i64 0, .int .i64 0, .int .i64 0, .bool false, .slice none 0 0] 35 (0, 0)) by
    have e := heap_new (w.alloc o1) o2
    rw [show (w.alloc o1).heap.size = w.heap.size + 1 by simp] at e
    rw [e, ho2])
  have HCL := hide (clone_lines t.L hf la lc _ (hin.below hal2))
  have B2 := hide hal2
  clear hal hal2 hin
  obtain ⟨num, kind, shift, ref, amt, left, void, L⟩ := t
  unfold txV txC at *
  dsimp only at *
  go_enter Try.func44, Try.ntmps44
  go_upto_region 1 with (fail)
  rw [← ho1, ← ho2]
  have hns : (w.alloc o1).heap.size = w.heap.size + 1 := by simp
  have hq2 : w.heap.size + 1 < ((w.alloc o1).alloc o2).heap.size := heap_lt X2.out
  generalize (w.alloc o1).alloc o2 = w2 at *
  clear ho1 ho2 hns
  have e7 := cell_of_block X1.out 7
  go_wp2_with fail
  refine HCL.out.mono ?_
  rintro e w3 ⟨a3, c3, rfl, hln, hb⟩
  have L3 := hide hln
  have X3 := hide ((hb.block _ (heap_lt X1.out)).trans X1.out)
  have Y3 := hide ((hb.block _ (heap_lt X2.out)).trans X2.out)
  have B3 := hide (B2.out.trans (hb.mono B2.out.size))
  clear hb hln e7 X1 X2 B2 HCL
  have f7 := frozen_of_block X3.out 7
  have d7 := cell_of_block X3.out 7
  go_upto_region 2 with (fail)
  have X4 := hide (show (w3.setCell ⟨w.heap.size, 7, none⟩ (.slice a3 L.length c3)).heap[w.heap.size]? = some (.cells (txC ⟨⟨num, kind, shift, ref, amt, left, void, L⟩, a3, c3⟩).toArray 35 (0, 0)) from block_setCell X3.out 7 _)
  have Y4 := hide (show (w3.setCell ⟨w.heap.size, 7, none⟩ (.slice a3 L.length c3)).heap[w.heap.size + 1]? = _ from (block_setCell_other (by omega) 7 _).trans Y3.out)
  have B4 := hide (B3.out.setCell (p := ⟨w.heap.size, 7, none⟩) (Nat.le_refl _) (.slice a3 L.length c3))
  have L4 := hide (LnT.turned L3.out X3.out (by decide) 7 (.slice a3 L.length c3))
  clear d7 f7 X3 Y3 B3 L3
  generalize w3.setCell ⟨w.heap.size, 7, none⟩ (.slice a3 L.length c3) = w4 at *
  have HS := hide (show w.heap.size + 1 < w4.heap.size from heap_lt Y4.out)
  go_wp2_with (first | (refine rw_load rfl 35 (.tmp 1) rfl w.heap.size rfl 35 _ (0, 0) _ X4.out Try.underlying35 rfl (tx_info _) ?_) | (refine rw_store rfl 35 (.tmp 2) (.tmp 7) rfl (w.heap.size + 1) rfl _ rfl _ Y4.out (tx_info ⟨⟨num, kind, shift, ref, amt, left, void, L⟩, a3, c3⟩) rfl (txC_all _) ?_))
  have Y5 := hide (setRow_same (cs := (txC ⟨⟨num, kind, shift, ref, amt, left, void, L⟩, a3, c3⟩).toArray) Y4.out)
  have B5 := hide (setRow_below (g := w.heap.size + 1) B4.out (by omega) (by have := HS.out; omega) (txC ⟨⟨num, kind, shift, ref, amt, left, void, L⟩, a3, c3⟩).toArray)
  have L5 := hide (L4.out.keepsT (setRow_keeps (Ts := SaleTs) Y4.out (by decide) (txC ⟨⟨num, kind, shift, ref, amt, left, void, L⟩, a3, c3⟩).toArray) (by decide))
  exact bodyPost_ret (results_cell_row (P := Try.prog) rfl _ _ (w.heap.size + 1) 35 _ (0, 0) (.struct _) rfl (by exact Y5.out) Try.underlying35 rfl (by kernel_rfl)) rfl ⟨a3, c3, rfl, L5.out, B5.out⟩
set_option maxRecDepth 100000 in
set_option maxHeartbeats 1000000 in
theorem slfind_none (B p : Nat) (keep next : Int) (v : Value) (T : List TxA) (n : Int) (hn : inR n) (hf : findT T.length next n = none) (w : World) (h : RegAt w B p keep next v T) :
    Calls Try.prog 42 #[.pointer (some ⟨p, 0, none⟩), .int .i64 n] w fun e w' => e = .returned (.pointer none) ∧ ∃ m, w' = w.drewN m := by
  have hcond : n ≥ next ∨ n < next - (T.length : Int) := by
    unfold findT at hf
    split at hf
    · assumption
    · cases hf
  obtain ⟨a, cap, rfl⟩ := h.row.split
  have hnx := h.nx
  have hfw := h.few
  have hw1 : wrap64 (next - (T.length : Int)) = next - (T.length : Int) := by unfold wrap64; omega
  have c1 := cell_of_block h.head 1
  have c2 := cell_of_block h.head 2
  clear h hf
  go_enter Try.func42, Try.ntmps42
  go_upto_region 1 with (fail)
  by_cases h1 : next ≤ n
  · go_quiet (fail)
    go_wp2_with fail
    go_ret
    exact ⟨rfl, _, rfl⟩
  · have h2 : n < next - (T.length : Int) := by omega
    go_quiet (fail)
    go_wp2_with fail
    go_ret
    exact ⟨rfl, _, rfl⟩
set_option maxRecDepth 100000 in
set_option maxHeartbeats 1000000 in
theorem slfind_some (B p : Nat) (keep next : Int) (g o cap : Nat) (T : List TxA) (n : Int) (i : Nat) (hf : findT T.length next n = some i) (w : World) (h : RegAt w B p keep next (.slice (some ⟨g, o, none⟩) T.length cap) T) :
    Calls Try.prog 42 #[.pointer (some ⟨p, 0, none⟩), .int .i64 n] w fun e w' => e = .returned (.pointer (some ⟨g, o + i * 8, none⟩)) ∧ ∃ m, w' = w.drewN m := by
  obtain ⟨hi, hii⟩ := findT_lt hf
  have hcond : ¬ (n ≥ next ∨ n < next - (T.length : Int)) := by
    unfold findT at hf
    split at hf
    · cases hf
    · assumption
  have hnx := h.nx
  have hfw := h.few
  have hw1 : wrap64 (next - (T.length : Int)) = next - (T.length : Int) := by unfold wrap64; omega
  have hw2 : wrap64 (next - n) = next - n := by unfold wrap64; omega
  have hw3 : wrap64 ((T.length : Int) - (next - n)) = (i : Int) := by unfold wrap64; omega
  have h1 : ¬ next ≤ n := by omega
  have h2 : ¬ n < next - (T.length : Int) := by omega
  have hlt : (i : Int) < (T.length : Int) := by omega
  have c1 := cell_of_block h.head 1
  have c2 := cell_of_block h.head 2
  clear h hf hcond hii
  go_enter Try.func42, Try.ntmps42
  go_upto_region 1 with (fail)
  go_quiet (fail)
  go_upto_region 3 with (fail)
  go_quiet (fail)
  have hto : ((T.length : Int) - (next - n)).toNat = i := by unfold wrap64 at hw3; omega
  rw [hto]
  clear c1 c2 hw1 hw2 hw3 h1 h2 hlt hto
  go_wp2_with fail
  go_ret
  exact ⟨rfl, _, drewN_add _ _ _⟩
set_option maxRecDepth 100000 in
theorem takes_nil (x : TxA) (w : World) :
    Calls Try.prog 43 #[txV x, .pointer none] w fun e w' => e = .returned (.int .i64 (takesE x.t none)) ∧ Below w.heap.size w w' := by
  obtain ⟨⟨num, kind, shift, ref, amt, left, void, L⟩, la, lc⟩ := x
  unfold txV txC
  dsimp only
  go_enter Try.func43, Try.ntmps43
  go_wp2_with fail
  go_ret
  exact ⟨rfl, (Below.refl _ _).alloc (Nat.le_refl _) _⟩
set_option maxRecDepth 100000 in
set_option maxHeartbeats 1000000 in
theorem takes_any (x : TxA) (s : TxM) (g o : Nat) (w : World) (hg : g < w.heap.size) (h1 : w.cell? ⟨g, o + 1, none⟩ = some (.int .u8 s.kind)) (h4 : w.cell? ⟨g, o + 4, none⟩ = some (.int .i64 s.amt)) (h5 : w.cell? ⟨g, o + 5, none⟩ = some (.int .i64 s.left)) (h6 : w.cell? ⟨g, o + 6, none⟩ = some (.bool s.void)) :
    Calls Try.prog 43 #[txV x, .pointer (some ⟨g, o, none⟩)] w fun e w' => e = .returned (.int .i64 (takesE x.t (some s))) ∧ Below w.heap.size w w' := by
  obtain ⟨⟨num, kind, shift, ref, amt, left, void, L⟩, la, lc⟩ := x
  have HR := hide (show takesE ⟨num, kind, shift, ref, amt, left, void, L⟩ (some s) = if ¬ s.kind = 1 then 15 else if s.void = true then 21 else if kind = 2 ∧ ¬ s.left = s.amt then 22 else if kind = 3 ∧ amt > s.left then 22 else if kind = 2 ∧ ¬ amt = s.amt then 2 else 0 from rfl)
  unfold txV txC
  dsimp only
  generalize takesE ⟨num, kind, shift, ref, amt, left, void, L⟩ (some s) = te at *
  generalize s.kind = sk at *
  generalize s.amt = sa at *
  generalize s.left = sl at *
  generalize s.void = sv at *
  obtain ⟨ob, hob⟩ : ∃ ob, ob = (Obj.cells #[.int .i64 num, .int .u8 kind, .int .i64 shift, .int .i64 ref, .int .i64 amt, .int .i64 left, .bool void, .slice la L.length lc] 35) := ⟨_, rfl⟩
  have hal := (Below.refl w.heap.size w).alloc (Nat.le_refl _) ob
  have X1 := hide (show (w.alloc ob).heap[w.heap.size]? = some (.cells #[.int .i64 num, .int .u8 kind, .int .i64 shift, .int .i64 ref, .int .i64 amt, .int .i64 left, .bool void, .slice la L.length lc] 35 (0, 0)) by rw [heap_new, hob])
  have k1 := cell_keep h1 hg hal
  have k4 := cell_keep h4 hg hal
  have k5 := cell_keep h5 hg hal
  have k6 := cell_keep h6 hg hal
  have BW := hide hal
  clear hal h1 h4 h5 h6 hg
  go_enter Try.func43, Try.ntmps43
  go_upto_region 1 with (fail)
  rw [← hob]
  generalize w.alloc ob = w1 at *
  generalize hq : w.heap.size = q at *
  have HQ := hide hq
  clear hob ob hq
  have c1 := cell_of_block X1.out 1
  have c4 := cell_of_block X1.out 4
  by_cases hsk : sk = 1
  · rw [if_neg (fun h => h hsk)] at HR
    subst hsk
    cases sv with
    | true =>
      rw [if_pos rfl] at HR
      go_wp2_with fail
      go_ret
      exact ⟨by rw [HR.out]; rfl, by rw [HQ.out]; exact BW.out⟩
    | false =>
      rw [if_neg (by decide)] at HR
      go_upto_region 5 with (fail)
      by_cases hk2 : kind = 2
      · subst hk2
        by_cases hla : sl = sa
        · rw [if_neg (fun h => h.2 hla), if_neg (fun h => absurd h.1 (by decide))] at HR
          subst hla
          go_quiet (fail)
          go_upto_region 6 with (fail)
          go_quiet (fail)
          go_upto_region 8 with (fail)
          by_cases haa : amt = sl
          · rw [if_neg (fun h => h.2 haa)] at HR
            subst haa
            go_quiet (fail)
            go_wp2_with fail
            go_ret
            exact ⟨by rw [HR.out]; rfl, by rw [HQ.out]; first | exact below_dn BW.out _ | exact below_dn (below_dn BW.out _) _ | exact below_dn (below_dn (below_dn BW.out _) _) _⟩
          · rw [if_pos ⟨rfl, haa⟩] at HR
            go_quiet (fail)
            go_wp2_with fail
            go_ret
            exact ⟨by rw [HR.out]; rfl, by rw [HQ.out]; first | exact below_dn BW.out _ | exact below_dn (below_dn BW.out _) _ | exact below_dn (below_dn (below_dn BW.out _) _) _⟩
        · rw [if_pos ⟨rfl, hla⟩] at HR
          go_quiet (fail)
          go_wp2_with fail
          go_ret
          exact ⟨by rw [HR.out]; rfl, by rw [HQ.out]; first | exact below_dn BW.out _ | exact below_dn (below_dn BW.out _) _ | exact below_dn (below_dn (below_dn BW.out _) _) _⟩
      · rw [if_neg (fun h => hk2 h.1)] at HR
        go_quiet (fail)
        go_upto_region 6 with (fail)
        by_cases hk3 : kind = 3
        · subst hk3
          by_cases hal : sl < amt
          · rw [if_pos ⟨rfl, hal⟩] at HR
            go_quiet (fail)
            go_wp2_with fail
            go_ret
            exact ⟨by rw [HR.out]; rfl, by rw [HQ.out]; first | exact below_dn BW.out _ | exact below_dn (below_dn BW.out _) _ | exact below_dn (below_dn (below_dn BW.out _) _) _⟩
          · rw [if_neg (fun h => hal h.2), if_neg (fun h => absurd h.1 (by decide))] at HR
            go_quiet (fail)
            go_upto_region 8 with (fail)
            go_quiet (fail)
            go_wp2_with fail
            go_ret
            exact ⟨by rw [HR.out]; rfl, by rw [HQ.out]; first | exact below_dn BW.out _ | exact below_dn (below_dn BW.out _) _ | exact below_dn (below_dn (below_dn BW.out _) _) _⟩
        · rw [if_neg (fun h => hk3 h.1), if_neg (fun h => hk2 h.1)] at HR
          go_quiet (fail)
          go_upto_region 8 with (fail)
          go_quiet (fail)
          go_wp2_with fail
          go_ret
          exact ⟨by rw [HR.out]; rfl, by rw [HQ.out]; first | exact below_dn BW.out _ | exact below_dn (below_dn BW.out _) _ | exact below_dn (below_dn (below_dn BW.out _) _) _⟩
  · rw [if_pos hsk] at HR
    go_wp2_with fail
    go_ret
    exact ⟨by rw [HR.out]; rfl, by rw [HQ.out]; exact BW.out⟩
end Go.Proofs.Ytbnbfnlfgmlcgaa
