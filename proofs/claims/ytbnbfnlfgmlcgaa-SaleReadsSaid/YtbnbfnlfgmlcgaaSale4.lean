/-
  Layer 25: Add.
-/
import Derived.Test.YtbnbfnlfgmlcgaaSale3
import Derived.StillTailTactics
--import Derived.Test.Zdbg
namespace Go.Proofs.Ytbnbfnlfgmlcgaa
set_option linter.unusedSimpArgs false
set_option linter.unusedVariables false
open Go.RowKit Go.WideShapes Go.ChangeShapes Go.ChangeAt Go.Deep

theorem OffRow.cap {w : World} {B e size n cap g o : Nat} {xs : List Value} (h : OffRow w B e size (.slice (some ⟨g, o, none⟩) n cap) n xs) : n ≤ cap := by
  rcases h.2 with ⟨hv, -⟩ | ⟨g', o', cap', cur, hv, h2, h3, h4, -⟩
  · cases hv
  · simp only [Value.slice.injEq] at hv
    rw [hv.2.2]; exact h4
theorem OffRow.capMax {w : World} {B e size n cap g o : Nat} {xs : List Value} (h : OffRow w B e size (.slice (some ⟨g, o, none⟩) n cap) n xs) : cap ≤ maxLen := by
  rcases h.2 with ⟨hv, -⟩ | ⟨g', o', cap', cur, hv, h2, h3, h4, h5, -⟩
  · cases hv
  · simp only [Value.slice.injEq] at hv
    rw [hv.2.2]; exact h5
theorem KeepsT.offGrown {Ts : List TypeId} {w w' : World} {B e m n : Nat} {v : Value} {xs : List Value} (ho : OffRow w B e m v n xs) (ht : e ∈ Ts) (hg : w.grownBy w' v.ownBlock) : KeepsT Ts w w' := fun k o hk hn => by
  refine (hg.block k (heap_lt hk) fun hq => ?_).trans hk
  obtain ⟨c, fz, hc⟩ := ho.kind k hq.symm
  rw [hk] at hc
  exact hn _ _ _ (Option.some.inj hc) ht
theorem flat_drop {α : Type} (f : α → List Value) (n : Nat) (hf : ∀ x, (f x).length = n) : ∀ (k : Nat) (L : List α), (L.drop k).flatMap f = (L.flatMap f).drop (k * n)
  | 0, L => by simp
  | k + 1, [] => by simp
  | k + 1, x :: L => by
    rw [List.drop_succ_cons, flat_drop f n hf k L, List.flatMap_cons, Nat.succ_mul, Nat.add_comm, ← List.drop_drop]
    congr 1
    rw [List.drop_append_of_le_length (by rw [hf]; exact Nat.le_refl _), List.drop_of_length_le (by rw [hf]; exact Nat.le_refl _), List.nil_append]
def AddIs (B p : Nat) (keep next : Int) (T : List TxA) (t : TxM) (w : World) (e : Ending) (w' : World) : Prop :=
  ∃ v' T', e = .returned (.tuple #[.int .i64 (if addE (T.map (·.t)) next t = 0 then next else 0), .int .i64 (addE (T.map (·.t)) next t)]) ∧ RegAt w' B p keep (addN (T.map (·.t)) next t) v' T' ∧ T'.map (·.t) = addM (T.map (·.t)) keep next t ∧ Below B w w' ∧ KeepsT SaleTs w w'
/-- what is done to the register alone -/
structure KO (qs : List Nat) (w w' : World) : Prop where
  kt : KeepsT SaleTs w w'
  ol : OnlyL qs w w'
theorem KO.of_below {qs : List Nat} {w w' : World} (h : Below w.heap.size w w') : KO qs w w' := ⟨KeepsT.of_below h, OnlyL.of_below h⟩
theorem KO.below {qs : List Nat} {a b c : World} (h : KO qs a b) (k : Below b.heap.size b c) : KO qs a c := ⟨h.kt.trans (KeepsT.of_below k), h.ol.trans (OnlyL.of_below k)⟩
theorem KO.add {qs rs : List Nat} {a b c : World} (h : KO qs a b) (k : KeepsT SaleTs b c) (o : OnlyL rs b c) (hr : ∀ r ∈ rs, r ∈ qs ∨ a.heap.size ≤ r) : KO qs a c := ⟨h.kt.trans k, h.ol.new o hr⟩
theorem KO.drewN {qs : List Nat} {a b : World} (h : KO qs a b) (n : Nat) : KO qs a (b.drewN n) := ⟨h.kt.drewN n, h.ol.drewN n⟩
theorem KO.drew {qs : List Nat} {a b : World} (h : KO qs a b) : KO qs a b.drew := ⟨fun k o hk hn => h.kt k o hk hn, h.ol.drew⟩
def AddIsO (qs : List Nat) (B p : Nat) (keep next : Int) (T : List TxA) (t : TxM) (w : World) (e : Ending) (w' : World) : Prop :=
  ∃ v' T', e = .returned (.tuple #[.int .i64 (if addE (T.map (·.t)) next t = 0 then next else 0), .int .i64 (addE (T.map (·.t)) next t)]) ∧ RegAt w' B p keep (addN (T.map (·.t)) next t) v' T' ∧ T'.map (·.t) = addM (T.map (·.t)) keep next t ∧ Below B w w' ∧ KO qs w w'
theorem add_no {qs : List Nat} {B p : Nat} {keep next er : Int} {v : Value} {T : List TxA} {t : TxM} {w w' : World} (h : RegAt w' B p keep next v T) (hE : addE (T.map (·.t)) next t = er) (h0 : er ≠ 0) (hb : Below B w w') (hk : KO qs w w') : AddIsO qs B p keep next T t w (.returned (.tuple #[.int .i64 0, .int .i64 er])) w' := by
  refine ⟨v, T, by rw [hE, if_neg h0], ?_, ?_, hb, hk⟩
  · unfold addN
    rw [hE, if_neg h0]
    exact h
  · unfold addM
    rw [hE, if_neg h0]
theorem add_fin {qs : List Nat} {B p : Nat} {keep next left : Int} {T T1 : List TxA} {t : TxM} {w W : World} (ht : TxOk t) (hkp : 1 ≤ keep ∧ keep ≤ 512) (hnx : 1 ≤ next ∧ next ≤ 4294967296) (hfw : (T.length : Int) ≤ keep ∧ (T.length : Int) ≤ next - 1) (hok : ∀ s ∈ T.map (·.t), KeptT s) (hnm : NumsT (T.map (·.t)) next) (hlow : B ≤ p)
    (hE : addE (T.map (·.t)) next t = 0) (hT1 : T1.map (·.t) = turnsT (T.map (·.t)) next t) (hlf : left = if t.kind = 1 then t.amt else 0) (g3 o3 c4 : Nat) (a3 : Option Addr) (c3 : Nat)
    (HD : W.heap[p]? = some (.cells #[.int .i64 keep, .int .i64 (next + 1), .slice (some ⟨g3, o3 + (T1.length + 1 - keep.toNat) * 8, none⟩) (T1.length + 1 - (T1.length + 1 - keep.toNat)) (c4 - (T1.length + 1 - keep.toNat))] 101 (0, 0)))
    (RO : OffRow W B 35 8 (.slice (some ⟨g3, o3 + (T1.length + 1 - keep.toNat) * 8, none⟩) (T1.length + 1 - (T1.length + 1 - keep.toNat)) (c4 - (T1.length + 1 - keep.toNat))) (T1.length + 1 - (T1.length + 1 - keep.toNat)) ((T1.flatMap txC ++ ([.int .i64 next, .int .u8 t.kind, .int .i64 t.shift, .int .i64 t.ref, .int .i64 t.amt, .int .i64 left, .bool false, .slice a3 t.L.length c3] : List Value)).drop ((T1.length + 1 - keep.toNat) * 8)))
    (LN : ∀ y ∈ T1, LnT W y.la y.t.L) (L3 : LnT W a3 t.L) (hb : Below B w W) (hk : KO qs w W) : AddIsO qs B p keep next T t w (.returned (.tuple #[.int .i64 next, .int .i64 0])) W := by
  have hlen : T1.length = T.length := by
    have := congrArg List.length hT1
    rwa [List.length_map, turns_len, List.length_map] at this
  have hle : next ≤ 4294967295 := (addE_right hE).2.2
  have hnl := addM_nums (keep := keep) (t := t) hnm hkp.1
  obtain ⟨y0, hy0⟩ : ∃ y0 : TxA, y0 = ⟨newT next t, a3, c3⟩ := ⟨_, rfl⟩
  have hcells : txC y0 = [.int .i64 next, .int .u8 t.kind, .int .i64 t.shift, .int .i64 t.ref, .int .i64 t.amt, .int .i64 left, .bool false, .slice a3 t.L.length c3] := by
    rw [hlf, hy0]; rfl
  have hmap : ((T1 ++ [y0]).drop (T1.length + 1 - keep.toNat)).map (·.t) = addM (T.map (·.t)) keep next t := by
    unfold addM
    rw [if_pos hE, List.map_drop, List.map_append, hT1, List.length_map, hlen, hy0]
    rfl
  have hdl : ((T1 ++ [y0]).drop (T1.length + 1 - keep.toNat)).length = T1.length + 1 - (T1.length + 1 - keep.toNat) := by simp
  refine ⟨.slice (some ⟨g3, o3 + (T1.length + 1 - keep.toNat) * 8, none⟩) (T1.length + 1 - (T1.length + 1 - keep.toNat)) (c4 - (T1.length + 1 - keep.toNat)), (T1 ++ [y0]).drop (T1.length + 1 - keep.toNat), by rw [hE, if_pos rfl], ⟨?_, ?_, fun y hy => ?_, hlow, hkp, ?_, ?_, ?_, ?_⟩, hmap, hb, hk⟩
  · unfold addN
    rw [if_pos hE]
    exact HD
  · rw [hdl, flat_drop txC 8 txC_length, List.flatMap_append, List.flatMap_singleton, hcells]
    exact RO
  · rcases List.mem_append.1 (List.mem_of_mem_drop hy) with h | h
    · exact LN y h
    · rw [List.mem_singleton.1 h, hy0]; exact L3
  · unfold addN
    rw [if_pos hE]
    omega
  · unfold addN
    rw [if_pos hE, hdl]
    omega
  · rw [hmap]
    exact addM_kept hok ht (by unfold inR; omega)
  · rw [hmap]
    exact hnl.1
set_option maxRecDepth 100000 in
set_option maxHeartbeats 2000000 in
theorem sladd_only (qs : List Nat) (B p : Nat) (keep next : Int) (v : Value) (T : List TxA) (x : TxA) (hx : TxOk x.t) (w : World) (hin : LnT w x.la x.t.L) (h : RegAt w B p keep next v T) (hqp : p ∈ qs) (hqv : ∀ k, v.ownBlock = some k → k ∈ qs) :
    Calls Try.prog 17 #[.pointer (some ⟨p, 0, none⟩), txV x] w (AddIsO qs B p keep next T x.t w) := by
  obtain ⟨i0, hi, hz0, hz1, hz2⟩ := info_parts (show (Try.prog.info? 35).map (fun i => (i.zero, i.size, i.bytes)) = some (some (.agg #[.int .i64 0, .int .u8 0, .int .i64 0, .int .i64 0, .int .i64 0, .int .i64 0, .bool false, .slice none 0 0]), 8, 80) by kernel_rfl)
  have HI := hide hi
  have HZ0 := hide hz0
  have HZ1 := hide hz1
  have HZ2 := hide hz2
  have HPW := hide (heap_lt h.head)
  have HLOW := hide h.low
  have HBS := hide (show B ≤ w.heap.size by have := h.low; have := heap_lt h.head; omega)
  have HKP := hide h.kp
  have HFW := hide h.few
  have HNX := hide h.nx
  have HXO := hide hx
  have hf8 := hx.few
  have HRO0 := hide h.row.lt
  obtain ⟨o1, ho1⟩ : ∃ ob, ob = (Obj.cells (txC x).toArray 35) := ⟨_, rfl⟩
  have hal := (Below.refl w.heap.size w).alloc (Nat.le_refl _) o1
  have X := hide (show (w.alloc o1).heap[w.heap.size]? = some (.cells (txC x).toArray 35 (0, 0)) by rw [heap_new, ho1])
  have RG := hide (h.below hal)
  have LX := hide (hin.below hal)
  have BW := hide (hal.mono HBS.out)
  have KT := hide (show KO qs w (w.alloc o1) from KO.of_below hal)
  have HQP := hide hqp
  have HQV := hide hqv
  clear hqp hqv
  have HRI := hide (fun W hW => slright_any x hx W hW)
  have HAN := hide (fun (er : Int) (w' : World) (h1 : RegAt w' B p keep next v T) (h2 : addE (T.map (·.t)) next x.t = er) (h3 : er ≠ 0) (h4 : Below B w w') (h5 : KO qs w w') => add_no h1 h2 h3 h4 h5)
  have HFN := hide (fun (left : Int) (T1 : List TxA) h1 h2 h3 g3 o3 c4 W a3 c3 h4 h5 h6 h7 h8 h9 => add_fin (qs := qs) (left := left) (T1 := T1) (w := w) (W := W) hx h.kp h.nx h.few h.ok h.nums h.low h1 h2 h3 g3 o3 c4 a3 c3 h4 h5 h6 h7 h8 h9)
  have HOKM := hide h.ok
  unfold txV txC at *
  clear hi hz0 hz1 hz2 hal hin hx h
  go_enter Try.func17, Try.ntmps17
  go_upto_region 1 with (fail)
  rw [← ho1]
  generalize w.alloc o1 = w1 at *
  obtain ⟨q, hq⟩ : ∃ q, q = w.heap.size := ⟨_, rfl⟩
  rw [← hq] at X ⊢
  have HPQ := hide (show p ≠ q by have := HPW.out; omega)
  have HQB := hide (show B ≤ q by have := HBS.out; omega)
  have HQL := hide (show w.heap.size ≤ q by omega)
  clear ho1 o1 hq
  have x0 := cell_of_block X.out 0
  have x1 := cell_of_block X.out 1
  have x2 := cell_of_block X.out 2
  have x3 := cell_of_block X.out 3
  have x4 := cell_of_block X.out 4
  have x5 := cell_of_block X.out 5
  have x6 := cell_of_block X.out 6
  have x7 := cell_of_block X.out 7
  go_wp2_with fail
  refine (HRI.out _ LX.out.lnIn).mono ?_
  rintro e w2 ⟨rfl, hb⟩
  have X2 := hide ((hb.block _ (heap_lt X.out)).trans X.out)
  have RG2 := hide (RG.out.below hb)
  have LX2 := hide (LX.out.below hb)
  have BW2 := hide (BW.out.trans (hb.mono (Nat.le_trans HBS.out BW.out.size)))
  have KT2 := hide (KT.out.below hb)
  clear hb x0 x1 x2 x3 x4 x5 x6 x7 X RG LX BW KT HRI
  have HAE := hide (show addE (T.map (·.t)) next x.t = if rightT x.t = false then 2 else if backT x.t.kind = true ∧ ¬ takesE x.t (ofT (T.map (·.t)) next x.t) = 0 then takesE x.t (ofT (T.map (·.t)) next x.t) else if next > 4294967295 then 7 else 0 from rfl)
  cases hri : rightT x.t with
  | false =>
    have HE := hide (show addE (T.map (·.t)) next x.t = 2 by rw [HAE.out, if_pos hri])
    clear hri HAE
    go_wp2_with fail
    go_ret2
    exact HAN.out _ _ RG2.out HE.out (by decide) BW2.out KT2.out
  | true =>
  have HRT := hide hri
  rw [if_neg (by rw [hri]; decide)] at HAE
  clear hri
  have x1 := cell_of_block X2.out 1
  have HBK := hide (fun W => kback_any x.t.kind W)
  go_wp2_with fail
  refine (HBK.out _).mono ?_
  rintro e w3 ⟨rfl, rfl⟩
  clear HBK x1
  cases hbk : backT x.t.kind with
  | false =>
    rw [if_neg (fun h => by rw [hbk] at h; exact absurd h.1 (by decide))] at HAE
    have HTT := hide (show T.map (·.t) = turnsT (T.map (·.t)) next x.t by unfold turnsT; rw [if_neg (by rw [hbk]; decide)])
    clear hbk
    have c1 := cell_of_block RG2.out.head 1
    by_cases hmx : next > 4294967295
    · have HE := hide (show addE (T.map (·.t)) next x.t = 7 by rw [HAE.out, if_pos hmx])
      clear HAE
      go_wp2_with fail
      go_ret2
      exact HAN.out _ _ RG2.out HE.out (by decide) BW2.out KT2.out
    · have HE := hide (show addE (T.map (·.t)) next x.t = 0 by rw [HAE.out, if_neg hmx])
      clear HAE
      have x0 := cell_of_block X2.out 0
      have x1 := cell_of_block X2.out 1
      have x2 := cell_of_block X2.out 2
      have x3 := cell_of_block X2.out 3
      have x4 := cell_of_block X2.out 4
      have x5 := cell_of_block X2.out 5
      have x6 := cell_of_block X2.out 6
      have x7 := cell_of_block X2.out 7
      go_upto_region 16 with (fail)
      obtain ⟨T1, hT1⟩ : ∃ T1, T1 = T := ⟨_, rfl⟩
      have HT1 := hide (show T1.map (·.t) = turnsT (T.map (·.t)) next x.t by rw [hT1]; exact HTT.out)
      have HTL := hide (show T1.length = T.length by rw [hT1])
      have HD2 := hide RG2.out.head
      have RO2 := hide (show OffRow w2 B 35 8 v T1.length (T1.flatMap txC) by rw [hT1]; exact RG2.out.row)
      have LN2 := hide (show ∀ y ∈ T1, LnT w2 y.la y.t.L by rw [hT1]; exact RG2.out.lines)
      have HQN := hide (show ∀ k, v.ownBlock = some k → k ≠ q from fun k hk => by have := (HRO0.out k hk).2; have := HQL.out; omega)
      have hln1 : T1.length ≤ 512 := by have := HFW.out; have := HKP.out; have := HTL.out; omega
      clear hT1 HTT RG2 c1
      have HCP := hide (copied_any x (by omega) w2 LX2.out.lnIn)
      unfold CopiedT txV txC at HCP
      go_wp2_with fail
      refine HCP.out.mono ?_
      rintro e w5 ⟨a3, c3, rfl, hln, hb⟩
      have X := hide ((hb.block _ (heap_lt X2.out)).trans X2.out)
      have HD := hide ((hb.block _ (heap_lt HD2.out)).trans HD2.out)
      have RO := hide (RO2.out.below hb)
      have LN := hide (show ∀ y ∈ T1, LnT w5 y.la y.t.L from fun y hy => (LN2.out y hy).below hb)
      have L3 := hide hln
      have BW := hide (BW2.out.trans (hb.mono (Nat.le_trans HBS.out BW2.out.size)))
      have KT := hide (KT2.out.below hb)
      clear hb hln HCP X2 HD2 RO2 LN2 LX2 BW2 KT2 x0 x1 x2 x3 x4 x5 x6 x7
      have HXI := hide (tx_info ⟨x.t, a3, c3⟩)
      have HXA := hide (txC_all ⟨x.t, a3, c3⟩)
      unfold txC at HXI HXA
      go_upto_region 17 with (refine rw_store rfl 35 (.tmp 3) (.tmp 51) rfl q rfl #[.int .i64 x.t.num, .int .u8 x.t.kind, .int .i64 x.t.shift, .int .i64 x.t.ref, .int .i64 x.t.amt, .int .i64 x.t.left, .bool x.t.void, .slice a3 x.t.L.length c3] rfl _ X.out HXI.out rfl HXA.out ?_)
      have K' := hide (setRow_keeps (Ts := SaleTs) X.out (by decide) #[.int .i64 x.t.num, .int .u8 x.t.kind, .int .i64 x.t.shift, .int .i64 x.t.ref, .int .i64 x.t.amt, .int .i64 x.t.left, .bool x.t.void, .slice a3 x.t.L.length c3])
      have HD' := hide ((setRow_diff (cs := #[.int .i64 x.t.num, .int .u8 x.t.kind, .int .i64 x.t.shift, .int .i64 x.t.ref, .int .i64 x.t.amt, .int .i64 x.t.left, .bool x.t.void, .slice a3 x.t.L.length c3]) (fun e => HPQ.out e.symm)).trans HD.out)
      have X' := hide (setRow_same (cs := #[.int .i64 x.t.num, .int .u8 x.t.kind, .int .i64 x.t.shift, .int .i64 x.t.ref, .int .i64 x.t.amt, .int .i64 x.t.left, .bool x.t.void, .slice a3 x.t.L.length c3]) X.out)
      have RO' := hide (RO.out.keptB (w' := w5.setRow q #[.int .i64 x.t.num, .int .u8 x.t.kind, .int .i64 x.t.shift, .int .i64 x.t.ref, .int .i64 x.t.amt, .int .i64 x.t.left, .bool x.t.void, .slice a3 x.t.L.length c3]) fun k hk => setRow_diff (fun e => HQN.out k hk e.symm))
      have LN' := hide (show ∀ y ∈ T1, LnT (w5.setRow q #[.int .i64 x.t.num, .int .u8 x.t.kind, .int .i64 x.t.shift, .int .i64 x.t.ref, .int .i64 x.t.amt, .int .i64 x.t.left, .bool x.t.void, .slice a3 x.t.L.length c3]) y.la y.t.L from fun y hy => (LN.out y hy).keepsT K'.out (by decide))
      have L3' := hide (L3.out.keepsT K'.out (by decide))
      have BW' := hide (setRow_below BW.out HQB.out (Nat.le_trans HBS.out BW.out.size) #[.int .i64 x.t.num, .int .u8 x.t.kind, .int .i64 x.t.shift, .int .i64 x.t.ref, .int .i64 x.t.amt, .int .i64 x.t.left, .bool x.t.void, .slice a3 x.t.L.length c3])
      have KT' := hide (KT.out.add K'.out (OnlyL.of_only (setRow_only w5 q #[.int .i64 x.t.num, .int .u8 x.t.kind, .int .i64 x.t.shift, .int .i64 x.t.ref, .int .i64 x.t.amt, .int .i64 x.t.left, .bool x.t.void, .slice a3 x.t.L.length c3]) (qs := [q]) (by simp)) (fun r hr => .inr (by rw [List.mem_singleton.1 hr]; exact HQL.out)))
      clear HD X RO LN L3 BW KT K' HXI HXA
      generalize w5.setRow q #[.int .i64 x.t.num, .int .u8 x.t.kind, .int .i64 x.t.shift, .int .i64 x.t.ref, .int .i64 x.t.amt, .int .i64 x.t.left, .bool x.t.void, .slice a3 x.t.L.length c3] = w6 at *
      have HD := hide HD'.out
      have X := hide X'.out
      have RO := hide RO'.out
      have LN := hide LN'.out
      have L3 := hide L3'.out
      have BW := hide BW'.out
      have KT := hide KT'.out
      clear HD' X' RO' LN' L3' BW' KT'
      have e1 := cell_of_block HD.out 1
      have x0 := cell_of_block X.out 0
      have x1 := cell_of_block X.out 1
      have x2 := cell_of_block X.out 2
      have x3 := cell_of_block X.out 3
      have x4 := cell_of_block X.out 4
      have x5 := cell_of_block X.out 5
      have x6 := cell_of_block X.out 6
      have x7 := cell_of_block X.out 7
      have y0 := frozen_of_block X.out 0
      have y5 := frozen_of_block X.out 5
      have y6 := frozen_of_block X.out 6
      go_upto_region 18 with (fail)
      clear e1 x0 x1 x2 x3 x4 x5 x6 x7 y0 y5 y6
      have HD' := hide ((block_setCell_other (v := .int .i64 next) (fun e => HPQ.out e.symm) 0).trans HD.out)
      have X' := hide (show (w6.setCell ⟨q, 0, none⟩ (.int .i64 next)).heap[q]? = some (.cells #[.int .i64 next, .int .u8 x.t.kind, .int .i64 x.t.shift, .int .i64 x.t.ref, .int .i64 x.t.amt, .int .i64 x.t.left, .bool x.t.void, .slice a3 x.t.L.length c3] 35 (0, 0)) from block_setCell X.out 0 (.int .i64 next))
      have K' := hide (KeepsT.setCell (Ts := SaleTs) X.out (by decide) 0 (.int .i64 next))
      have RO' := hide (RO.out.keptB (w' := w6.setCell ⟨q, 0, none⟩ (.int .i64 next)) fun k hk => block_setCell_other (fun e => HQN.out k hk e.symm) 0 _)
      have LN' := hide (show ∀ y ∈ T1, LnT (w6.setCell ⟨q, 0, none⟩ (.int .i64 next)) y.la y.t.L from fun y hy => (LN.out y hy).keepsT K'.out (by decide))
      have L3' := hide (L3.out.keepsT K'.out (by decide))
      have BW' := hide (BW.out.setCell (p := ⟨q, 0, none⟩) HQB.out (.int .i64 next))
      have KT' := hide (KT.out.add K'.out (OnlyL.setCell (qs := [q]) (a := w6) (q := q) (by simp) 0 (.int .i64 next)) (fun r hr => .inr (by rw [List.mem_singleton.1 hr]; exact HQL.out)))
      clear HD X RO LN L3 BW KT K'
      generalize w6.setCell ⟨q, 0, none⟩ (.int .i64 next) = w7 at *
      have HD := hide HD'.out
      have X := hide X'.out
      have RO := hide RO'.out
      have LN := hide LN'.out
      have L3 := hide L3'.out
      have BW := hide BW'.out
      have KT := hide KT'.out
      clear HD' X' RO' LN' L3' BW' KT'
      have HD' := hide ((block_setCell_other (v := .int .i64 0) (fun e => HPQ.out e.symm) 5).trans HD.out)
      have X' := hide (show (w7.setCell ⟨q, 5, none⟩ (.int .i64 0)).heap[q]? = some (.cells #[.int .i64 next, .int .u8 x.t.kind, .int .i64 x.t.shift, .int .i64 x.t.ref, .int .i64 x.t.amt, .int .i64 0, .bool x.t.void, .slice a3 x.t.L.length c3] 35 (0, 0)) from block_setCell X.out 5 (.int .i64 0))
      have K' := hide (KeepsT.setCell (Ts := SaleTs) X.out (by decide) 5 (.int .i64 0))
      have RO' := hide (RO.out.keptB (w' := w7.setCell ⟨q, 5, none⟩ (.int .i64 0)) fun k hk => block_setCell_other (fun e => HQN.out k hk e.symm) 5 _)
      have LN' := hide (show ∀ y ∈ T1, LnT (w7.setCell ⟨q, 5, none⟩ (.int .i64 0)) y.la y.t.L from fun y hy => (LN.out y hy).keepsT K'.out (by decide))
      have L3' := hide (L3.out.keepsT K'.out (by decide))
      have BW' := hide (BW.out.setCell (p := ⟨q, 5, none⟩) HQB.out (.int .i64 0))
      have KT' := hide (KT.out.add K'.out (OnlyL.setCell (qs := [q]) (a := w7) (q := q) (by simp) 5 (.int .i64 0)) (fun r hr => .inr (by rw [List.mem_singleton.1 hr]; exact HQL.out)))
      clear HD X RO LN L3 BW KT K'
      generalize w7.setCell ⟨q, 5, none⟩ (.int .i64 0) = w8 at *
      have HD := hide HD'.out
      have X := hide X'.out
      have RO := hide RO'.out
      have LN := hide LN'.out
      have L3 := hide L3'.out
      have BW := hide BW'.out
      have KT := hide KT'.out
      clear HD' X' RO' LN' L3' BW' KT'
      have HD' := hide ((block_setCell_other (v := .bool false) (fun e => HPQ.out e.symm) 6).trans HD.out)
      have X' := hide (show (w8.setCell ⟨q, 6, none⟩ (.bool false)).heap[q]? = some (.cells #[.int .i64 next, .int .u8 x.t.kind, .int .i64 x.t.shift, .int .i64 x.t.ref, .int .i64 x.t.amt, .int .i64 0, .bool false, .slice a3 x.t.L.length c3] 35 (0, 0)) from block_setCell X.out 6 (.bool false))
      have K' := hide (KeepsT.setCell (Ts := SaleTs) X.out (by decide) 6 (.bool false))
      have RO' := hide (RO.out.keptB (w' := w8.setCell ⟨q, 6, none⟩ (.bool false)) fun k hk => block_setCell_other (fun e => HQN.out k hk e.symm) 6 _)
      have LN' := hide (show ∀ y ∈ T1, LnT (w8.setCell ⟨q, 6, none⟩ (.bool false)) y.la y.t.L from fun y hy => (LN.out y hy).keepsT K'.out (by decide))
      have L3' := hide (L3.out.keepsT K'.out (by decide))
      have BW' := hide (BW.out.setCell (p := ⟨q, 6, none⟩) HQB.out (.bool false))
      have KT' := hide (KT.out.add K'.out (OnlyL.setCell (qs := [q]) (a := w8) (q := q) (by simp) 6 (.bool false)) (fun r hr => .inr (by rw [List.mem_singleton.1 hr]; exact HQL.out)))
      clear HD X RO LN L3 BW KT K'
      generalize w8.setCell ⟨q, 6, none⟩ (.bool false) = w9 at *
      have HD := hide HD'.out
      have X := hide X'.out
      have RO := hide RO'.out
      have LN := hide LN'.out
      have L3 := hide L3'.out
      have BW := hide BW'.out
      have KT := hide KT'.out
      clear HD' X' RO' LN' L3' BW' KT'
      have x1 := cell_of_block X.out 1
      have x4 := cell_of_block X.out 4
      have y5 := frozen_of_block X.out 5
      have x5 := cell_of_block X.out 5
      by_cases hk1 : x.t.kind = 1
      · have HFIN := hide (fun g3 o3 c4 W a3 c3 h4 h5 h6 h7 h8 h9 => HFN.out x.t.amt T1 HE.out HT1.out (if_pos hk1).symm g3 o3 c4 W a3 c3 h4 h5 h6 h7 h8 h9)
        go_upto_region 20 with (fail)
        clear x1 x4 y5 x5 hk1
        have HD' := hide ((block_setCell_other (v := .int .i64 x.t.amt) (fun e => HPQ.out e.symm) 5).trans HD.out)
        have X' := hide (show (w9.setCell ⟨q, 5, none⟩ (.int .i64 x.t.amt)).heap[q]? = some (.cells #[.int .i64 next, .int .u8 x.t.kind, .int .i64 x.t.shift, .int .i64 x.t.ref, .int .i64 x.t.amt, .int .i64 x.t.amt, .bool false, .slice a3 x.t.L.length c3] 35 (0, 0)) from block_setCell X.out 5 (.int .i64 x.t.amt))
        have K' := hide (KeepsT.setCell (Ts := SaleTs) X.out (by decide) 5 (.int .i64 x.t.amt))
        have RO' := hide (RO.out.keptB (w' := w9.setCell ⟨q, 5, none⟩ (.int .i64 x.t.amt)) fun k hk => block_setCell_other (fun e => HQN.out k hk e.symm) 5 _)
        have LN' := hide (show ∀ y ∈ T1, LnT (w9.setCell ⟨q, 5, none⟩ (.int .i64 x.t.amt)) y.la y.t.L from fun y hy => (LN.out y hy).keepsT K'.out (by decide))
        have L3' := hide (L3.out.keepsT K'.out (by decide))
        have BW' := hide (BW.out.setCell (p := ⟨q, 5, none⟩) HQB.out (.int .i64 x.t.amt))
        have KT' := hide (KT.out.add K'.out (OnlyL.setCell (qs := [q]) (a := w9) (q := q) (by simp) 5 (.int .i64 x.t.amt)) (fun r hr => .inr (by rw [List.mem_singleton.1 hr]; exact HQL.out)))
        clear HD X RO LN L3 BW KT K'
        generalize w9.setCell ⟨q, 5, none⟩ (.int .i64 x.t.amt) = w10 at *
        have HD := hide HD'.out
        have X := hide X'.out
        have RO := hide RO'.out
        have LN := hide LN'.out
        have L3 := hide L3'.out
        have BW := hide BW'.out
        have KT := hide KT'.out
        clear HD' X' RO' LN' L3' BW' KT'
        have c1 := cell_of_block HD.out 1
        have d1 := frozen_of_block HD.out 1
        have hnw : wrap64 (next + 1) = next + 1 := by have := HNX.out; unfold wrap64; omega
        go_upto_region 21 with (fail)
        clear c1 d1 hnw
        have HD' := hide (show (w10.setCell ⟨p, 1, none⟩ (.int .i64 (next + 1))).heap[p]? = some (.cells #[.int .i64 keep, .int .i64 (next + 1), v] 101 (0, 0)) from block_setCell HD.out 1 _)
        have X' := hide ((block_setCell_other (v := .int .i64 (next + 1)) HPQ.out 1).trans X.out)
        have K' := hide (KeepsT.setCell (Ts := [101]) HD.out (by decide) 1 (.int .i64 (next + 1)))
        have RO' := hide (RO.out.keepsT K'.out (by decide))
        have LN' := hide (show ∀ y ∈ T1, LnT (w10.setCell ⟨p, 1, none⟩ (.int .i64 (next + 1))) y.la y.t.L from fun y hy => (LN.out y hy).keepsT K'.out (by decide))
        have L3' := hide (L3.out.keepsT K'.out (by decide))
        have BW' := hide (BW.out.setCell (p := ⟨p, 1, none⟩) HLOW.out (.int .i64 (next + 1)))
        have KT' := hide (KT.out.add (K'.out.mono (by decide)) (OnlyL.setCell (qs := [p]) (a := w10) (q := p) (by simp) 1 (.int .i64 (next + 1))) (fun r hr => .inl (by rw [List.mem_singleton.1 hr]; exact HQP.out)))
        clear HD X RO LN L3 BW KT K'
        generalize w10.setCell ⟨p, 1, none⟩ (.int .i64 (next + 1)) = wt at *
        have HD := hide HD'.out
        have X := hide X'.out
        have RO := hide RO'.out
        have LN := hide LN'.out
        have L3 := hide L3'.out
        have BW := hide BW'.out
        have KT := hide KT'.out
        clear HD' X' RO' LN' L3' BW' KT'
        refine wp_region_held_drew (S := (fun W => (∃ v1, W.heap[p]? = some (.cells #[.int .i64 keep, .int .i64 (next + 1), v1] 101 (0, 0))) ∧ W.heap[q]? = some (.cells #[.int .i64 next, .int .u8 x.t.kind, .int .i64 x.t.shift, .int .i64 x.t.ref, .int .i64 x.t.amt, .int .i64 x.t.amt, .bool false, .slice a3 x.t.L.length c3] 35 (0, 0)))) (by kernel_rfl) (⟨⟨_, HD.out⟩, X.out⟩) (fun hHeld => ?_)
        have HDD := hide (show wt.drew.heap[p]? = some (.cells #[.int .i64 keep, .int .i64 (next + 1), v] 101 (0, 0)) from HD.out)
        have XD := hide (show wt.drew.heap[q]? = some (.cells #[.int .i64 next, .int .u8 x.t.kind, .int .i64 x.t.shift, .int .i64 x.t.ref, .int .i64 x.t.amt, .int .i64 x.t.amt, .bool false, .slice a3 x.t.L.length c3] 35 (0, 0)) from X.out)
        have ROD := hide RO.out.drew
        have LND := hide (show ∀ y ∈ T1, LnT wt.drew y.la y.t.L from fun y hy => LN.out y hy)
        have L3D := hide (show LnT wt.drew a3 x.t.L from L3.out)
        have BWD := hide BW.out.drew
        have KTD := hide KT.out.drew
        generalize wt.drew = v0 at *
        have al := (Below.refl v0.heap.size v0).alloc (Nat.le_refl _) (.cells #[.int .i64 next, .int .u8 x.t.kind, .int .i64 x.t.shift, .int .i64 x.t.ref, .int .i64 x.t.amt, .int .i64 x.t.amt, .bool false, .slice a3 x.t.L.length c3] 35)
        have XB := hide (heap_new v0 (.cells #[.int .i64 next, .int .u8 x.t.kind, .int .i64 x.t.shift, .int .i64 x.t.ref, .int .i64 x.t.amt, .int .i64 x.t.amt, .bool false, .slice a3 x.t.L.length c3] 35))
        have HDA := hide ((al.block _ (heap_lt HDD.out)).trans HDD.out)
        have XA := hide ((al.block _ (heap_lt XD.out)).trans XD.out)
        have ROA := hide (ROD.out.below al)
        have LNA := hide (show ∀ y ∈ T1, LnT (v0.alloc (.cells #[.int .i64 next, .int .u8 x.t.kind, .int .i64 x.t.shift, .int .i64 x.t.ref, .int .i64 x.t.amt, .int .i64 x.t.amt, .bool false, .slice a3 x.t.L.length c3] 35)) y.la y.t.L from fun y hy => (LND.out y hy).below al)
        have L3A := hide (L3D.out.below al)
        have BWA := hide (BWD.out.trans (al.mono (Nat.le_trans HBS.out BWD.out.size)))
        have KTA := hide (KTD.out.below al)
        have hwa : B ≤ (v0.alloc (.cells #[.int .i64 next, .int .u8 x.t.kind, .int .i64 x.t.shift, .int .i64 x.t.ref, .int .i64 x.t.amt, .int .i64 x.t.amt, .bool false, .slice a3 x.t.L.length c3] 35)).heap.size := Nat.le_trans HBS.out BWA.out.size
        have g2 := cell_of_block HDD.out 2
        have g2A := cell_of_block HDA.out 2
        have h8 : (T1.flatMap txC).length = T1.length * 8 := flat_length txC 8 txC_length T1
        clear al HD X RO LN L3 BW KT HDD XD ROD LND L3D BWD KTD
        refine wpAnyH_take (i := 0) (oi := { dst := some 72, op := Op.move (Operand.tmp 0), type := 49, pos := "sale.go:141", after := #[], guard := none }) (v := ?_) rfl (by kernel_rfl) (by kernel_rfl) (by kernel_rfl) (fun _ _ _ h => h) (Or.inl ⟨by kernel_rfl, ?_⟩) hHeld ?_
        rotate_left
        · (intro w hSw; (try dsimp only at hSw); obtain ⟨⟨v1, hp⟩, hx2⟩ := hSw; have e0 := cell_of_block hp 0; have x0 := cell_of_block hx2 0; have x1 := cell_of_block hx2 1; have x2 := cell_of_block hx2 2; have x3 := cell_of_block hx2 3; have x4 := cell_of_block hx2 4; have x5 := cell_of_block hx2 5; have x6 := cell_of_block hx2 6; have x7 := cell_of_block hx2 7; go_simp); try with_reducible rfl
        try simp only [Act.put, List.setIfInBounds_toArray, List.set_cons_zero, List.set_cons_succ]
        refine wpAnyH_take (i := 1) (oi := { dst := some 73, op := Op.move (Operand.tmp 0), type := 49, pos := "sale.go:141", after := #[], guard := none }) (v := ?_) rfl (by kernel_rfl) (by kernel_rfl) (by kernel_rfl) (fun _ _ _ h => h) (Or.inl ⟨by kernel_rfl, ?_⟩) hHeld ?_
        rotate_left
        · (intro w hSw; (try dsimp only at hSw); obtain ⟨⟨v1, hp⟩, hx2⟩ := hSw; have e0 := cell_of_block hp 0; have x0 := cell_of_block hx2 0; have x1 := cell_of_block hx2 1; have x2 := cell_of_block hx2 2; have x3 := cell_of_block hx2 3; have x4 := cell_of_block hx2 4; have x5 := cell_of_block hx2 5; have x6 := cell_of_block hx2 6; have x7 := cell_of_block hx2 7; go_simp); try with_reducible rfl
        try simp only [Act.put, List.setIfInBounds_toArray, List.set_cons_zero, List.set_cons_succ]
        refine wpAnyH_take (i := 2) (oi := { dst := some 74, op := Op.nilCheck (Operand.tmp 73), type := 0, pos := "sale.go:141", after := #[{ on := 1, ground := Ground.data }], guard := none }) (v := ?_) rfl (by kernel_rfl) (by kernel_rfl) (by kernel_rfl) (fun _ _ _ h => h) (Or.inl ⟨by kernel_rfl, ?_⟩) hHeld ?_
        rotate_left
        · (intro w hSw; (try dsimp only at hSw); obtain ⟨⟨v1, hp⟩, hx2⟩ := hSw; have e0 := cell_of_block hp 0; have x0 := cell_of_block hx2 0; have x1 := cell_of_block hx2 1; have x2 := cell_of_block hx2 2; have x3 := cell_of_block hx2 3; have x4 := cell_of_block hx2 4; have x5 := cell_of_block hx2 5; have x6 := cell_of_block hx2 6; have x7 := cell_of_block hx2 7; go_simp); try with_reducible rfl
        try simp only [Act.put, List.setIfInBounds_toArray, List.set_cons_zero, List.set_cons_succ]
        refine wpAnyH_take (i := 3) (oi := { dst := some 75, op := Op.fieldAddr 101 (Operand.tmp 74) 2, type := 0, pos := "sale.go:141", after := #[{ on := 2, ground := Ground.data }], guard := none }) (v := ?_) rfl (by kernel_rfl) (by kernel_rfl) (by kernel_rfl) (fun _ _ _ h => h) (Or.inl ⟨by kernel_rfl, ?_⟩) hHeld ?_
        rotate_left
        · (intro w hSw; (try dsimp only at hSw); obtain ⟨⟨v1, hp⟩, hx2⟩ := hSw; have e0 := cell_of_block hp 0; have x0 := cell_of_block hx2 0; have x1 := cell_of_block hx2 1; have x2 := cell_of_block hx2 2; have x3 := cell_of_block hx2 3; have x4 := cell_of_block hx2 4; have x5 := cell_of_block hx2 5; have x6 := cell_of_block hx2 6; have x7 := cell_of_block hx2 7; go_simp); try with_reducible rfl
        try simp only [Act.put, List.setIfInBounds_toArray, List.set_cons_zero, List.set_cons_succ]
        refine wpAnyH_take (i := 5) (oi := { dst := some 77, op := Op.load 35 (Operand.tmp 3), type := 35, pos := "sale.go:141", after := #[], guard := none }) (v := ?_) rfl (by kernel_rfl) (by kernel_rfl) (by kernel_rfl) (fun _ _ _ h => h) (Or.inl ⟨by kernel_rfl, ?_⟩) hHeld ?_
        rotate_left
        · (intro w hSw; (try dsimp only at hSw); obtain ⟨⟨v1, hp⟩, hx2⟩ := hSw; have e0 := cell_of_block hp 0; have x0 := cell_of_block hx2 0; have x1 := cell_of_block hx2 1; have x2 := cell_of_block hx2 2; have x3 := cell_of_block hx2 3; have x4 := cell_of_block hx2 4; have x5 := cell_of_block hx2 5; have x6 := cell_of_block hx2 6; have x7 := cell_of_block hx2 7; go_simp); try with_reducible rfl
        try simp only [Act.put, List.setIfInBounds_toArray, List.set_cons_zero, List.set_cons_succ]
        refine wpAnyH_take (i := 8) (oi := { dst := some 80, op := Op.move (Operand.tmp 0), type := 49, pos := "sale.go:141", after := #[], guard := none }) (v := ?_) rfl (by kernel_rfl) (by kernel_rfl) (by kernel_rfl) (fun _ _ _ h => h) (Or.inl ⟨by kernel_rfl, ?_⟩) hHeld ?_
        rotate_left
        · (intro w hSw; (try dsimp only at hSw); obtain ⟨⟨v1, hp⟩, hx2⟩ := hSw; have e0 := cell_of_block hp 0; have x0 := cell_of_block hx2 0; have x1 := cell_of_block hx2 1; have x2 := cell_of_block hx2 2; have x3 := cell_of_block hx2 3; have x4 := cell_of_block hx2 4; have x5 := cell_of_block hx2 5; have x6 := cell_of_block hx2 6; have x7 := cell_of_block hx2 7; go_simp); try with_reducible rfl
        try simp only [Act.put, List.setIfInBounds_toArray, List.set_cons_zero, List.set_cons_succ]
        refine wpAnyH_take (i := 9) (oi := { dst := some 81, op := Op.nilCheck (Operand.tmp 80), type := 0, pos := "sale.go:141", after := #[{ on := 8, ground := Ground.data }], guard := none }) (v := ?_) rfl (by kernel_rfl) (by kernel_rfl) (by kernel_rfl) (fun _ _ _ h => h) (Or.inl ⟨by kernel_rfl, ?_⟩) hHeld ?_
        rotate_left
        · (intro w hSw; (try dsimp only at hSw); obtain ⟨⟨v1, hp⟩, hx2⟩ := hSw; have e0 := cell_of_block hp 0; have x0 := cell_of_block hx2 0; have x1 := cell_of_block hx2 1; have x2 := cell_of_block hx2 2; have x3 := cell_of_block hx2 3; have x4 := cell_of_block hx2 4; have x5 := cell_of_block hx2 5; have x6 := cell_of_block hx2 6; have x7 := cell_of_block hx2 7; go_simp); try with_reducible rfl
        try simp only [Act.put, List.setIfInBounds_toArray, List.set_cons_zero, List.set_cons_succ]
        refine wpAnyH_take (i := 10) (oi := { dst := some 82, op := Op.fieldAddr 101 (Operand.tmp 81) 0, type := 0, pos := "sale.go:141", after := #[{ on := 9, ground := Ground.data }], guard := none }) (v := ?_) rfl (by kernel_rfl) (by kernel_rfl) (by kernel_rfl) (fun _ _ _ h => h) (Or.inl ⟨by kernel_rfl, ?_⟩) hHeld ?_
        rotate_left
        · (intro w hSw; (try dsimp only at hSw); obtain ⟨⟨v1, hp⟩, hx2⟩ := hSw; have e0 := cell_of_block hp 0; have x0 := cell_of_block hx2 0; have x1 := cell_of_block hx2 1; have x2 := cell_of_block hx2 2; have x3 := cell_of_block hx2 3; have x4 := cell_of_block hx2 4; have x5 := cell_of_block hx2 5; have x6 := cell_of_block hx2 6; have x7 := cell_of_block hx2 7; go_simp); try with_reducible rfl
        try simp only [Act.put, List.setIfInBounds_toArray, List.set_cons_zero, List.set_cons_succ]
        refine wpAnyH_take (i := 11) (oi := { dst := some 83, op := Op.load 3 (Operand.tmp 82), type := 3, pos := "sale.go:141", after := #[{ on := 10, ground := Ground.data }], guard := none }) (v := ?_) rfl (by kernel_rfl) (by kernel_rfl) (by kernel_rfl) (fun _ _ _ h => h) (Or.inl ⟨by kernel_rfl, ?_⟩) hHeld ?_
        rotate_left
        · (intro w hSw; (try dsimp only at hSw); obtain ⟨⟨v1, hp⟩, hx2⟩ := hSw; have e0 := cell_of_block hp 0; have x0 := cell_of_block hx2 0; have x1 := cell_of_block hx2 1; have x2 := cell_of_block hx2 2; have x3 := cell_of_block hx2 3; have x4 := cell_of_block hx2 4; have x5 := cell_of_block hx2 5; have x6 := cell_of_block hx2 6; have x7 := cell_of_block hx2 7; go_simp); try with_reducible rfl
        try simp only [Act.put, List.setIfInBounds_toArray, List.set_cons_zero, List.set_cons_succ]
        refine wpAnyH_ready (rs := [4, 6]) (by kernel_rfl) (by simp) (AllReadyH.cons (o := { dst := some 76, op := Op.load 67 (Operand.tmp 75), type := 67, pos := "sale.go:141", after := #[{ on := 3, ground := Ground.data }], guard := none }) rfl (fun K hK => ?_) (AllReadyH.cons (o := { dst := some 78, op := Op.buildSlice 67 1 #[(0, Operand.tmp 77)], type := 67, pos := "sale.go:141", after := #[{ on := 5, ground := Ground.data }], guard := none }) rfl (fun K hK => ?_) AllReadyH.nil))
        · have hOld := hide hHeld
          clear hHeld
          go_simp
          skip
          (try go_wp2_with fail)
          refine hK.out _ _ (hOld.out) (fun hHeld => ?_)
          clear hK K hOld
          try simp only [Act.put, List.setIfInBounds_toArray, List.set_cons_zero, List.set_cons_succ]
          refine wpAnyH_ready (rs := [6]) (by kernel_rfl) (by simp) (AllReadyH.cons (o := { dst := some 78, op := Op.buildSlice 67 1 #[(0, Operand.tmp 77)], type := 67, pos := "sale.go:141", after := #[{ on := 5, ground := Ground.data }], guard := none }) rfl (fun K hK => ?_) AllReadyH.nil)
          have hOld := hide hHeld
          clear hHeld
          go_simp
          skip
          (try go_wp2_with fail)
          refine hK.out _ _ (⟨⟨_, HDA.out⟩, XA.out⟩) (fun hHeld => ?_)
          clear hK K hOld
          try simp only [Act.put, List.setIfInBounds_toArray, List.set_cons_zero, List.set_cons_succ]
          refine wpAnyH_ready (rs := [7]) (by kernel_rfl) (by simp) (AllReadyH.cons (o := { dst := some 79, op := Op.call { callee := Callee.builtin Builtin.append, args := #[Operand.tmp 76, Operand.tmp 78], argTypes := #[67, 67] }, type := 67, pos := "sale.go:141", after := #[{ on := 4, ground := Ground.data }, { on := 6, ground := Ground.data }], guard := none }) rfl (fun K hK => ?_) AllReadyH.nil)
          have hOld := hide hHeld
          clear hHeld
          clear g2 g2A
          refine wp_append_off _ (.tmp 76) (.tmp 78) 67 rfl B 35 i0 (.agg #[.int .i64 0, .int .u8 0, .int .i64 0, .int .i64 0, .int .i64 0, .int .i64 0, .bool false, .slice none 0 0]) 8 80 Try.underlying67 HI.out HZ0.out HZ1.out HZ2.out rfl (by decide) v T1.length (T1.flatMap txC) rfl ROA.out ⟨v0.heap.size, 0, none⟩ 1 1 (by decide) [.int .i64 next, .int .u8 x.t.kind, .int .i64 x.t.shift, .int .i64 x.t.ref, .int .i64 x.t.amt, .int .i64 x.t.amt, .bool false, .slice a3 x.t.L.length c3] rfl rfl (cells_new XB.out) (by simp [Value.oneCell']) (by unfold maxLen; omega) (by omega) hwa ?_
          intro g3 o3 c4 w3 ho hgr hnil
          have RO3 := hide ho
          have KT3 := hide (KTA.out.add (KeepsT.offGrown ROA.out (by decide) hgr) (onlyL_of_grown hgr) (fun r hr => .inl (HQV.out r (Option.mem_toList.1 hr))))
          have HD3 := hide ((hgr.block p (heap_lt HDA.out) (fun e => by obtain ⟨cc, fz, hc⟩ := ROA.out.kind p e.symm; rw [HDA.out] at hc; simp only [Option.some.injEq, Obj.cells.injEq] at hc; exact absurd hc.2.1 (by decide))).trans HDA.out)
          have X3 := hide ((hgr.block q (heap_lt XA.out) (fun e => HQN.out q e.symm rfl)).trans XA.out)
          have LN3 := hide (show ∀ y ∈ T1, LnT w3 y.la y.t.L from fun y hy => (LNA.out y hy).keepsT (KeepsT.offGrown ROA.out (Ts := SaleTs) (by decide) hgr) (by decide))
          have L33 := hide (L3A.out.keepsT (KeepsT.offGrown ROA.out (Ts := SaleTs) (by decide) hgr) (by decide))
          have BW3 := hide (BWA.out.grown hgr (Nat.le_trans HBS.out BWA.out.size) (fun jj hj => (ROA.out.lt jj hj).1))
          clear ho hgr hnil HDA XA ROA LNA L3A BWA KTA hwa
          refine hK.out _ _ (⟨⟨_, HD3.out⟩, X3.out⟩) (fun hHeld => ?_)
          clear hK K hOld
          try simp only [Act.put, List.setIfInBounds_toArray, List.set_cons_zero, List.set_cons_succ]
          refine wpAnyH_ready (rs := [12]) (by kernel_rfl) (by simp) (AllReadyH.cons (o := { dst := some 84, op := Op.call { callee := Callee.value (Operand.func 45), args := #[Operand.tmp 79, Operand.tmp 83], argTypes := #[67, 3] }, type := 67, pos := "sale.go:141", after := #[{ on := 7, ground := Ground.data }, { on := 11, ground := Ground.data }, { on := 7, ground := Ground.chain }], guard := none }) rfl (fun K hK => ?_) AllReadyH.nil)
          have hOld := hide hHeld
          clear hHeld
          go_simp
          refine (lastsl_any g3 o3 (T1.length + 1) c4 keep HKP.out (by omega) (OffRow.cap RO3.out) (OffRow.capMax RO3.out) _ rfl w3).mono ?_
          rintro e w4 ⟨rfl, rfl⟩
          have d2 := cell_of_block HD3.out 2
          have z2 := frozen_of_block HD3.out 2
          (try go_wp2_with fail)
          refine hK.out _ _ (⟨⟨_, HD3.out⟩, X3.out⟩) (fun hHeld => ?_)
          clear hK K hOld
          try simp only [Act.put, List.setIfInBounds_toArray, List.set_cons_zero, List.set_cons_succ]
          refine wpAnyH_take (i := 13) (oi := { dst := some 85, op := Op.nilCheck (Operand.tmp 72), type := 0, pos := "sale.go:141", after := #[{ on := 0, ground := Ground.data }, { on := 0, ground := Ground.phase }, { on := 1, ground := Ground.phase }, { on := 2, ground := Ground.phase }, { on := 3, ground := Ground.phase }, { on := 4, ground := Ground.phase }, { on := 5, ground := Ground.phase }, { on := 6, ground := Ground.phase }, { on := 7, ground := Ground.phase }, { on := 8, ground := Ground.phase }, { on := 9, ground := Ground.phase }, { on := 10, ground := Ground.phase }, { on := 11, ground := Ground.phase }, { on := 12, ground := Ground.phase }], guard := none }) (v := ?_) rfl (by kernel_rfl) (by kernel_rfl) (by kernel_rfl) (fun _ _ _ h => h) (Or.inl ⟨by kernel_rfl, ?_⟩) hHeld ?_
          rotate_left
          · (intro w hSw; (try dsimp only at hSw); obtain ⟨⟨v1, hp⟩, hx2⟩ := hSw; have e0 := cell_of_block hp 0; have x0 := cell_of_block hx2 0; have x1 := cell_of_block hx2 1; have x2 := cell_of_block hx2 2; have x3 := cell_of_block hx2 3; have x4 := cell_of_block hx2 4; have x5 := cell_of_block hx2 5; have x6 := cell_of_block hx2 6; have x7 := cell_of_block hx2 7; go_simp); try with_reducible rfl
          try simp only [Act.put, List.setIfInBounds_toArray, List.set_cons_zero, List.set_cons_succ]
          refine wpAnyH_take (i := 14) (oi := { dst := some 86, op := Op.fieldAddr 101 (Operand.tmp 85) 2, type := 0, pos := "sale.go:141", after := #[{ on := 13, ground := Ground.data }, { on := 0, ground := Ground.phase }, { on := 1, ground := Ground.phase }, { on := 2, ground := Ground.phase }, { on := 3, ground := Ground.phase }, { on := 4, ground := Ground.phase }, { on := 5, ground := Ground.phase }, { on := 6, ground := Ground.phase }, { on := 7, ground := Ground.phase }, { on := 8, ground := Ground.phase }, { on := 9, ground := Ground.phase }, { on := 10, ground := Ground.phase }, { on := 11, ground := Ground.phase }, { on := 12, ground := Ground.phase }], guard := none }) (v := ?_) rfl (by kernel_rfl) (by kernel_rfl) (by kernel_rfl) (fun _ _ _ h => h) (Or.inl ⟨by kernel_rfl, ?_⟩) hHeld ?_
          rotate_left
          · (intro w hSw; (try dsimp only at hSw); obtain ⟨⟨v1, hp⟩, hx2⟩ := hSw; have e0 := cell_of_block hp 0; have x0 := cell_of_block hx2 0; have x1 := cell_of_block hx2 1; have x2 := cell_of_block hx2 2; have x3 := cell_of_block hx2 3; have x4 := cell_of_block hx2 4; have x5 := cell_of_block hx2 5; have x6 := cell_of_block hx2 6; have x7 := cell_of_block hx2 7; go_simp); try with_reducible rfl
          try simp only [Act.put, List.setIfInBounds_toArray, List.set_cons_zero, List.set_cons_succ]
          refine wpAnyH_ready (rs := [15]) (by kernel_rfl) (by simp) (AllReadyH.cons (o := { dst := none, op := Op.store 67 (Operand.tmp 86) (Operand.tmp 84), type := 0, pos := "sale.go:141", after := #[{ on := 14, ground := Ground.data }, { on := 12, ground := Ground.data }, { on := 12, ground := Ground.chain }, { on := 0, ground := Ground.phase }, { on := 1, ground := Ground.phase }, { on := 2, ground := Ground.phase }, { on := 3, ground := Ground.phase }, { on := 4, ground := Ground.phase }, { on := 5, ground := Ground.phase }, { on := 6, ground := Ground.phase }, { on := 7, ground := Ground.phase }, { on := 8, ground := Ground.phase }, { on := 9, ground := Ground.phase }, { on := 10, ground := Ground.phase }, { on := 11, ground := Ground.phase }, { on := 12, ground := Ground.phase }], guard := none }) rfl (fun K hK => ?_) AllReadyH.nil)
          have hOld := hide hHeld
          clear hHeld
          go_simp
          skip
          (try go_wp2_with fail)
          refine hK.out _ _ (⟨⟨_, block_setCell HD3.out 2 _⟩, (block_setCell_other HPQ.out 2 _).trans X3.out⟩) (fun hHeld => ?_)
          clear hK K hOld
          try simp only [Act.put, List.setIfInBounds_toArray, List.set_cons_zero, List.set_cons_succ]
          refine wpAnyH_done (by kernel_rfl) ?_ _
          clear hHeld
          have HD4 := hide (block_setCell HD3.out 2 (.slice (some ⟨g3, o3 + (T1.length + 1 - keep.toNat) * 8, none⟩) (T1.length + 1 - (T1.length + 1 - keep.toNat)) (c4 - (T1.length + 1 - keep.toNat))))
          have X4 := hide ((block_setCell_other (v := .slice (some ⟨g3, o3 + (T1.length + 1 - keep.toNat) * 8, none⟩) (T1.length + 1 - (T1.length + 1 - keep.toNat)) (c4 - (T1.length + 1 - keep.toNat))) HPQ.out 2).trans X3.out)
          have K4 := hide (KeepsT.setCell (Ts := [101]) HD3.out (by decide) 2 (.slice (some ⟨g3, o3 + (T1.length + 1 - keep.toNat) * 8, none⟩) (T1.length + 1 - (T1.length + 1 - keep.toNat)) (c4 - (T1.length + 1 - keep.toNat))))
          have O4 := hide (OnlyL.setCell (qs := [p]) (a := w3) (q := p) (by simp) 2 (.slice (some ⟨g3, o3 + (T1.length + 1 - keep.toNat) * 8, none⟩) (T1.length + 1 - (T1.length + 1 - keep.toNat)) (c4 - (T1.length + 1 - keep.toNat))))
          have B4 := hide (BW3.out.setCell (p := ⟨p, 2, none⟩) HLOW.out (.slice (some ⟨g3, o3 + (T1.length + 1 - keep.toNat) * 8, none⟩) (T1.length + 1 - (T1.length + 1 - keep.toNat)) (c4 - (T1.length + 1 - keep.toNat))))
          generalize w3.setCell ⟨p, 2, none⟩ (.slice (some ⟨g3, o3 + (T1.length + 1 - keep.toNat) * 8, none⟩) (T1.length + 1 - (T1.length + 1 - keep.toNat)) (c4 - (T1.length + 1 - keep.toNat))) = w4 at *
          have RO4 := hide ((RO3.out.drop (T1.length + 1 - keep.toNat) (by omega)).keepsT K4.out (by decide))
          have LN4 := hide (show ∀ y ∈ T1, LnT w4 y.la y.t.L from fun y hy => (LN3.out y hy).keepsT K4.out (by decide))
          have L34 := hide (L33.out.keepsT K4.out (by decide))
          have KT4 := hide (KT3.out.add (K4.out.mono (by decide)) O4.out (fun r hr => .inl (by rw [List.mem_singleton.1 hr]; exact HQP.out)))
          clear HD3 X3 K4 O4 RO3 LN3 L33 BW3 KT3
          have e0 := cell_of_block X4.out 0
          go_wp2_with fail
          go_ret2
          exact HFIN.out _ _ _ _ a3 c3 HD4.out RO4.out LN4.out L34.out B4.out KT4.out
          
        · have hOld := hide hHeld
          clear hHeld
          go_simp
          skip
          (try go_wp2_with fail)
          refine hK.out _ _ (⟨⟨_, HDA.out⟩, XA.out⟩) (fun hHeld => ?_)
          clear hK K hOld
          try simp only [Act.put, List.setIfInBounds_toArray, List.set_cons_zero, List.set_cons_succ]
          refine wpAnyH_ready (rs := [4]) (by kernel_rfl) (by simp) (AllReadyH.cons (o := { dst := some 76, op := Op.load 67 (Operand.tmp 75), type := 67, pos := "sale.go:141", after := #[{ on := 3, ground := Ground.data }], guard := none }) rfl (fun K hK => ?_) AllReadyH.nil)
          have hOld := hide hHeld
          clear hHeld
          go_simp
          skip
          (try go_wp2_with fail)
          refine hK.out _ _ (hOld.out) (fun hHeld => ?_)
          clear hK K hOld
          try simp only [Act.put, List.setIfInBounds_toArray, List.set_cons_zero, List.set_cons_succ]
          refine wpAnyH_ready (rs := [7]) (by kernel_rfl) (by simp) (AllReadyH.cons (o := { dst := some 79, op := Op.call { callee := Callee.builtin Builtin.append, args := #[Operand.tmp 76, Operand.tmp 78], argTypes := #[67, 67] }, type := 67, pos := "sale.go:141", after := #[{ on := 4, ground := Ground.data }, { on := 6, ground := Ground.data }], guard := none }) rfl (fun K hK => ?_) AllReadyH.nil)
          have hOld := hide hHeld
          clear hHeld
          clear g2 g2A
          refine wp_append_off _ (.tmp 76) (.tmp 78) 67 rfl B 35 i0 (.agg #[.int .i64 0, .int .u8 0, .int .i64 0, .int .i64 0, .int .i64 0, .int .i64 0, .bool false, .slice none 0 0]) 8 80 Try.underlying67 HI.out HZ0.out HZ1.out HZ2.out rfl (by decide) v T1.length (T1.flatMap txC) rfl ROA.out ⟨v0.heap.size, 0, none⟩ 1 1 (by decide) [.int .i64 next, .int .u8 x.t.kind, .int .i64 x.t.shift, .int .i64 x.t.ref, .int .i64 x.t.amt, .int .i64 x.t.amt, .bool false, .slice a3 x.t.L.length c3] rfl rfl (cells_new XB.out) (by simp [Value.oneCell']) (by unfold maxLen; omega) (by omega) hwa ?_
          intro g3 o3 c4 w3 ho hgr hnil
          have RO3 := hide ho
          have KT3 := hide (KTA.out.add (KeepsT.offGrown ROA.out (by decide) hgr) (onlyL_of_grown hgr) (fun r hr => .inl (HQV.out r (Option.mem_toList.1 hr))))
          have HD3 := hide ((hgr.block p (heap_lt HDA.out) (fun e => by obtain ⟨cc, fz, hc⟩ := ROA.out.kind p e.symm; rw [HDA.out] at hc; simp only [Option.some.injEq, Obj.cells.injEq] at hc; exact absurd hc.2.1 (by decide))).trans HDA.out)
          have X3 := hide ((hgr.block q (heap_lt XA.out) (fun e => HQN.out q e.symm rfl)).trans XA.out)
          have LN3 := hide (show ∀ y ∈ T1, LnT w3 y.la y.t.L from fun y hy => (LNA.out y hy).keepsT (KeepsT.offGrown ROA.out (Ts := SaleTs) (by decide) hgr) (by decide))
          have L33 := hide (L3A.out.keepsT (KeepsT.offGrown ROA.out (Ts := SaleTs) (by decide) hgr) (by decide))
          have BW3 := hide (BWA.out.grown hgr (Nat.le_trans HBS.out BWA.out.size) (fun jj hj => (ROA.out.lt jj hj).1))
          clear ho hgr hnil HDA XA ROA LNA L3A BWA KTA hwa
          refine hK.out _ _ (⟨⟨_, HD3.out⟩, X3.out⟩) (fun hHeld => ?_)
          clear hK K hOld
          try simp only [Act.put, List.setIfInBounds_toArray, List.set_cons_zero, List.set_cons_succ]
          refine wpAnyH_ready (rs := [12]) (by kernel_rfl) (by simp) (AllReadyH.cons (o := { dst := some 84, op := Op.call { callee := Callee.value (Operand.func 45), args := #[Operand.tmp 79, Operand.tmp 83], argTypes := #[67, 3] }, type := 67, pos := "sale.go:141", after := #[{ on := 7, ground := Ground.data }, { on := 11, ground := Ground.data }, { on := 7, ground := Ground.chain }], guard := none }) rfl (fun K hK => ?_) AllReadyH.nil)
          have hOld := hide hHeld
          clear hHeld
          go_simp
          refine (lastsl_any g3 o3 (T1.length + 1) c4 keep HKP.out (by omega) (OffRow.cap RO3.out) (OffRow.capMax RO3.out) _ rfl w3).mono ?_
          rintro e w4 ⟨rfl, rfl⟩
          have d2 := cell_of_block HD3.out 2
          have z2 := frozen_of_block HD3.out 2
          (try go_wp2_with fail)
          refine hK.out _ _ (⟨⟨_, HD3.out⟩, X3.out⟩) (fun hHeld => ?_)
          clear hK K hOld
          try simp only [Act.put, List.setIfInBounds_toArray, List.set_cons_zero, List.set_cons_succ]
          refine wpAnyH_take (i := 13) (oi := { dst := some 85, op := Op.nilCheck (Operand.tmp 72), type := 0, pos := "sale.go:141", after := #[{ on := 0, ground := Ground.data }, { on := 0, ground := Ground.phase }, { on := 1, ground := Ground.phase }, { on := 2, ground := Ground.phase }, { on := 3, ground := Ground.phase }, { on := 4, ground := Ground.phase }, { on := 5, ground := Ground.phase }, { on := 6, ground := Ground.phase }, { on := 7, ground := Ground.phase }, { on := 8, ground := Ground.phase }, { on := 9, ground := Ground.phase }, { on := 10, ground := Ground.phase }, { on := 11, ground := Ground.phase }, { on := 12, ground := Ground.phase }], guard := none }) (v := ?_) rfl (by kernel_rfl) (by kernel_rfl) (by kernel_rfl) (fun _ _ _ h => h) (Or.inl ⟨by kernel_rfl, ?_⟩) hHeld ?_
          rotate_left
          · (intro w hSw; (try dsimp only at hSw); obtain ⟨⟨v1, hp⟩, hx2⟩ := hSw; have e0 := cell_of_block hp 0; have x0 := cell_of_block hx2 0; have x1 := cell_of_block hx2 1; have x2 := cell_of_block hx2 2; have x3 := cell_of_block hx2 3; have x4 := cell_of_block hx2 4; have x5 := cell_of_block hx2 5; have x6 := cell_of_block hx2 6; have x7 := cell_of_block hx2 7; go_simp); try with_reducible rfl
          try simp only [Act.put, List.setIfInBounds_toArray, List.set_cons_zero, List.set_cons_succ]
          refine wpAnyH_take (i := 14) (oi := { dst := some 86, op := Op.fieldAddr 101 (Operand.tmp 85) 2, type := 0, pos := "sale.go:141", after := #[{ on := 13, ground := Ground.data }, { on := 0, ground := Ground.phase }, { on := 1, ground := Ground.phase }, { on := 2, ground := Ground.phase }, { on := 3, ground := Ground.phase }, { on := 4, ground := Ground.phase }, { on := 5, ground := Ground.phase }, { on := 6, ground := Ground.phase }, { on := 7, ground := Ground.phase }, { on := 8, ground := Ground.phase }, { on := 9, ground := Ground.phase }, { on := 10, ground := Ground.phase }, { on := 11, ground := Ground.phase }, { on := 12, ground := Ground.phase }], guard := none }) (v := ?_) rfl (by kernel_rfl) (by kernel_rfl) (by kernel_rfl) (fun _ _ _ h => h) (Or.inl ⟨by kernel_rfl, ?_⟩) hHeld ?_
          rotate_left
          · (intro w hSw; (try dsimp only at hSw); obtain ⟨⟨v1, hp⟩, hx2⟩ := hSw; have e0 := cell_of_block hp 0; have x0 := cell_of_block hx2 0; have x1 := cell_of_block hx2 1; have x2 := cell_of_block hx2 2; have x3 := cell_of_block hx2 3; have x4 := cell_of_block hx2 4; have x5 := cell_of_block hx2 5; have x6 := cell_of_block hx2 6; have x7 := cell_of_block hx2 7; go_simp); try with_reducible rfl
          try simp only [Act.put, List.setIfInBounds_toArray, List.set_cons_zero, List.set_cons_succ]
          refine wpAnyH_ready (rs := [15]) (by kernel_rfl) (by simp) (AllReadyH.cons (o := { dst := none, op := Op.store 67 (Operand.tmp 86) (Operand.tmp 84), type := 0, pos := "sale.go:141", after := #[{ on := 14, ground := Ground.data }, { on := 12, ground := Ground.data }, { on := 12, ground := Ground.chain }, { on := 0, ground := Ground.phase }, { on := 1, ground := Ground.phase }, { on := 2, ground := Ground.phase }, { on := 3, ground := Ground.phase }, { on := 4, ground := Ground.phase }, { on := 5, ground := Ground.phase }, { on := 6, ground := Ground.phase }, { on := 7, ground := Ground.phase }, { on := 8, ground := Ground.phase }, { on := 9, ground := Ground.phase }, { on := 10, ground := Ground.phase }, { on := 11, ground := Ground.phase }, { on := 12, ground := Ground.phase }], guard := none }) rfl (fun K hK => ?_) AllReadyH.nil)
          have hOld := hide hHeld
          clear hHeld
          go_simp
          skip
          (try go_wp2_with fail)
          refine hK.out _ _ (⟨⟨_, block_setCell HD3.out 2 _⟩, (block_setCell_other HPQ.out 2 _).trans X3.out⟩) (fun hHeld => ?_)
          clear hK K hOld
          try simp only [Act.put, List.setIfInBounds_toArray, List.set_cons_zero, List.set_cons_succ]
          refine wpAnyH_done (by kernel_rfl) ?_ _
          clear hHeld
          have HD4 := hide (block_setCell HD3.out 2 (.slice (some ⟨g3, o3 + (T1.length + 1 - keep.toNat) * 8, none⟩) (T1.length + 1 - (T1.length + 1 - keep.toNat)) (c4 - (T1.length + 1 - keep.toNat))))
          have X4 := hide ((block_setCell_other (v := .slice (some ⟨g3, o3 + (T1.length + 1 - keep.toNat) * 8, none⟩) (T1.length + 1 - (T1.length + 1 - keep.toNat)) (c4 - (T1.length + 1 - keep.toNat))) HPQ.out 2).trans X3.out)
          have K4 := hide (KeepsT.setCell (Ts := [101]) HD3.out (by decide) 2 (.slice (some ⟨g3, o3 + (T1.length + 1 - keep.toNat) * 8, none⟩) (T1.length + 1 - (T1.length + 1 - keep.toNat)) (c4 - (T1.length + 1 - keep.toNat))))
          have O4 := hide (OnlyL.setCell (qs := [p]) (a := w3) (q := p) (by simp) 2 (.slice (some ⟨g3, o3 + (T1.length + 1 - keep.toNat) * 8, none⟩) (T1.length + 1 - (T1.length + 1 - keep.toNat)) (c4 - (T1.length + 1 - keep.toNat))))
          have B4 := hide (BW3.out.setCell (p := ⟨p, 2, none⟩) HLOW.out (.slice (some ⟨g3, o3 + (T1.length + 1 - keep.toNat) * 8, none⟩) (T1.length + 1 - (T1.length + 1 - keep.toNat)) (c4 - (T1.length + 1 - keep.toNat))))
          generalize w3.setCell ⟨p, 2, none⟩ (.slice (some ⟨g3, o3 + (T1.length + 1 - keep.toNat) * 8, none⟩) (T1.length + 1 - (T1.length + 1 - keep.toNat)) (c4 - (T1.length + 1 - keep.toNat))) = w4 at *
          have RO4 := hide ((RO3.out.drop (T1.length + 1 - keep.toNat) (by omega)).keepsT K4.out (by decide))
          have LN4 := hide (show ∀ y ∈ T1, LnT w4 y.la y.t.L from fun y hy => (LN3.out y hy).keepsT K4.out (by decide))
          have L34 := hide (L33.out.keepsT K4.out (by decide))
          have KT4 := hide (KT3.out.add (K4.out.mono (by decide)) O4.out (fun r hr => .inl (by rw [List.mem_singleton.1 hr]; exact HQP.out)))
          clear HD3 X3 K4 O4 RO3 LN3 L33 BW3 KT3
          have e0 := cell_of_block X4.out 0
          go_wp2_with fail
          go_ret2
          exact HFIN.out _ _ _ _ a3 c3 HD4.out RO4.out LN4.out L34.out B4.out KT4.out
          
      · have HFIN := hide (fun g3 o3 c4 W a3 c3 h4 h5 h6 h7 h8 h9 => HFN.out 0 T1 HE.out HT1.out (if_neg hk1).symm g3 o3 c4 W a3 c3 h4 h5 h6 h7 h8 h9)
        go_upto_region 20 with (fail)
        clear x1 x4 y5 x5 hk1
        have c1 := cell_of_block HD.out 1
        have d1 := frozen_of_block HD.out 1
        have hnw : wrap64 (next + 1) = next + 1 := by have := HNX.out; unfold wrap64; omega
        go_upto_region 21 with (fail)
        clear c1 d1 hnw
        have HD' := hide (show (w9.setCell ⟨p, 1, none⟩ (.int .i64 (next + 1))).heap[p]? = some (.cells #[.int .i64 keep, .int .i64 (next + 1), v] 101 (0, 0)) from block_setCell HD.out 1 _)
        have X' := hide ((block_setCell_other (v := .int .i64 (next + 1)) HPQ.out 1).trans X.out)
        have K' := hide (KeepsT.setCell (Ts := [101]) HD.out (by decide) 1 (.int .i64 (next + 1)))
        have RO' := hide (RO.out.keepsT K'.out (by decide))
        have LN' := hide (show ∀ y ∈ T1, LnT (w9.setCell ⟨p, 1, none⟩ (.int .i64 (next + 1))) y.la y.t.L from fun y hy => (LN.out y hy).keepsT K'.out (by decide))
        have L3' := hide (L3.out.keepsT K'.out (by decide))
        have BW' := hide (BW.out.setCell (p := ⟨p, 1, none⟩) HLOW.out (.int .i64 (next + 1)))
        have KT' := hide (KT.out.add (K'.out.mono (by decide)) (OnlyL.setCell (qs := [p]) (a := w9) (q := p) (by simp) 1 (.int .i64 (next + 1))) (fun r hr => .inl (by rw [List.mem_singleton.1 hr]; exact HQP.out)))
        clear HD X RO LN L3 BW KT K'
        generalize w9.setCell ⟨p, 1, none⟩ (.int .i64 (next + 1)) = wt at *
        have HD := hide HD'.out
        have X := hide X'.out
        have RO := hide RO'.out
        have LN := hide LN'.out
        have L3 := hide L3'.out
        have BW := hide BW'.out
        have KT := hide KT'.out
        clear HD' X' RO' LN' L3' BW' KT'
        refine wp_region_held_drew (S := (fun W => (∃ v1, W.heap[p]? = some (.cells #[.int .i64 keep, .int .i64 (next + 1), v1] 101 (0, 0))) ∧ W.heap[q]? = some (.cells #[.int .i64 next, .int .u8 x.t.kind, .int .i64 x.t.shift, .int .i64 x.t.ref, .int .i64 x.t.amt, .int .i64 0, .bool false, .slice a3 x.t.L.length c3] 35 (0, 0)))) (by kernel_rfl) (⟨⟨_, HD.out⟩, X.out⟩) (fun hHeld => ?_)
        have HDD := hide (show wt.drew.heap[p]? = some (.cells #[.int .i64 keep, .int .i64 (next + 1), v] 101 (0, 0)) from HD.out)
        have XD := hide (show wt.drew.heap[q]? = some (.cells #[.int .i64 next, .int .u8 x.t.kind, .int .i64 x.t.shift, .int .i64 x.t.ref, .int .i64 x.t.amt, .int .i64 0, .bool false, .slice a3 x.t.L.length c3] 35 (0, 0)) from X.out)
        have ROD := hide RO.out.drew
        have LND := hide (show ∀ y ∈ T1, LnT wt.drew y.la y.t.L from fun y hy => LN.out y hy)
        have L3D := hide (show LnT wt.drew a3 x.t.L from L3.out)
        have BWD := hide BW.out.drew
        have KTD := hide KT.out.drew
        generalize wt.drew = v0 at *
        have al := (Below.refl v0.heap.size v0).alloc (Nat.le_refl _) (.cells #[.int .i64 next, .int .u8 x.t.kind, .int .i64 x.t.shift, .int .i64 x.t.ref, .int .i64 x.t.amt, .int .i64 0, .bool false, .slice a3 x.t.L.length c3] 35)
        have XB := hide (heap_new v0 (.cells #[.int .i64 next, .int .u8 x.t.kind, .int .i64 x.t.shift, .int .i64 x.t.ref, .int .i64 x.t.amt, .int .i64 0, .bool false, .slice a3 x.t.L.length c3] 35))
        have HDA := hide ((al.block _ (heap_lt HDD.out)).trans HDD.out)
        have XA := hide ((al.block _ (heap_lt XD.out)).trans XD.out)
        have ROA := hide (ROD.out.below al)
        have LNA := hide (show ∀ y ∈ T1, LnT (v0.alloc (.cells #[.int .i64 next, .int .u8 x.t.kind, .int .i64 x.t.shift, .int .i64 x.t.ref, .int .i64 x.t.amt, .int .i64 0, .bool false, .slice a3 x.t.L.length c3] 35)) y.la y.t.L from fun y hy => (LND.out y hy).below al)
        have L3A := hide (L3D.out.below al)
        have BWA := hide (BWD.out.trans (al.mono (Nat.le_trans HBS.out BWD.out.size)))
        have KTA := hide (KTD.out.below al)
        have hwa : B ≤ (v0.alloc (.cells #[.int .i64 next, .int .u8 x.t.kind, .int .i64 x.t.shift, .int .i64 x.t.ref, .int .i64 x.t.amt, .int .i64 0, .bool false, .slice a3 x.t.L.length c3] 35)).heap.size := Nat.le_trans HBS.out BWA.out.size
        have g2 := cell_of_block HDD.out 2
        have g2A := cell_of_block HDA.out 2
        have h8 : (T1.flatMap txC).length = T1.length * 8 := flat_length txC 8 txC_length T1
        clear al HD X RO LN L3 BW KT HDD XD ROD LND L3D BWD KTD
        refine wpAnyH_take (i := 0) (oi := { dst := some 72, op := Op.move (Operand.tmp 0), type := 49, pos := "sale.go:141", after := #[], guard := none }) (v := ?_) rfl (by kernel_rfl) (by kernel_rfl) (by kernel_rfl) (fun _ _ _ h => h) (Or.inl ⟨by kernel_rfl, ?_⟩) hHeld ?_
        rotate_left
        · (intro w hSw; (try dsimp only at hSw); obtain ⟨⟨v1, hp⟩, hx2⟩ := hSw; have e0 := cell_of_block hp 0; have x0 := cell_of_block hx2 0; have x1 := cell_of_block hx2 1; have x2 := cell_of_block hx2 2; have x3 := cell_of_block hx2 3; have x4 := cell_of_block hx2 4; have x5 := cell_of_block hx2 5; have x6 := cell_of_block hx2 6; have x7 := cell_of_block hx2 7; go_simp); try with_reducible rfl
        try simp only [Act.put, List.setIfInBounds_toArray, List.set_cons_zero, List.set_cons_succ]
        refine wpAnyH_take (i := 1) (oi := { dst := some 73, op := Op.move (Operand.tmp 0), type := 49, pos := "sale.go:141", after := #[], guard := none }) (v := ?_) rfl (by kernel_rfl) (by kernel_rfl) (by kernel_rfl) (fun _ _ _ h => h) (Or.inl ⟨by kernel_rfl, ?_⟩) hHeld ?_
        rotate_left
        · (intro w hSw; (try dsimp only at hSw); obtain ⟨⟨v1, hp⟩, hx2⟩ := hSw; have e0 := cell_of_block hp 0; have x0 := cell_of_block hx2 0; have x1 := cell_of_block hx2 1; have x2 := cell_of_block hx2 2; have x3 := cell_of_block hx2 3; have x4 := cell_of_block hx2 4; have x5 := cell_of_block hx2 5; have x6 := cell_of_block hx2 6; have x7 := cell_of_block hx2 7; go_simp); try with_reducible rfl
        try simp only [Act.put, List.setIfInBounds_toArray, List.set_cons_zero, List.set_cons_succ]
        refine wpAnyH_take (i := 2) (oi := { dst := some 74, op := Op.nilCheck (Operand.tmp 73), type := 0, pos := "sale.go:141", after := #[{ on := 1, ground := Ground.data }], guard := none }) (v := ?_) rfl (by kernel_rfl) (by kernel_rfl) (by kernel_rfl) (fun _ _ _ h => h) (Or.inl ⟨by kernel_rfl, ?_⟩) hHeld ?_
        rotate_left
        · (intro w hSw; (try dsimp only at hSw); obtain ⟨⟨v1, hp⟩, hx2⟩ := hSw; have e0 := cell_of_block hp 0; have x0 := cell_of_block hx2 0; have x1 := cell_of_block hx2 1; have x2 := cell_of_block hx2 2; have x3 := cell_of_block hx2 3; have x4 := cell_of_block hx2 4; have x5 := cell_of_block hx2 5; have x6 := cell_of_block hx2 6; have x7 := cell_of_block hx2 7; go_simp); try with_reducible rfl
        try simp only [Act.put, List.setIfInBounds_toArray, List.set_cons_zero, List.set_cons_succ]
        refine wpAnyH_take (i := 3) (oi := { dst := some 75, op := Op.fieldAddr 101 (Operand.tmp 74) 2, type := 0, pos := "sale.go:141", after := #[{ on := 2, ground := Ground.data }], guard := none }) (v := ?_) rfl (by kernel_rfl) (by kernel_rfl) (by kernel_rfl) (fun _ _ _ h => h) (Or.inl ⟨by kernel_rfl, ?_⟩) hHeld ?_
        rotate_left
        · (intro w hSw; (try dsimp only at hSw); obtain ⟨⟨v1, hp⟩, hx2⟩ := hSw; have e0 := cell_of_block hp 0; have x0 := cell_of_block hx2 0; have x1 := cell_of_block hx2 1; have x2 := cell_of_block hx2 2; have x3 := cell_of_block hx2 3; have x4 := cell_of_block hx2 4; have x5 := cell_of_block hx2 5; have x6 := cell_of_block hx2 6; have x7 := cell_of_block hx2 7; go_simp); try with_reducible rfl
        try simp only [Act.put, List.setIfInBounds_toArray, List.set_cons_zero, List.set_cons_succ]
        refine wpAnyH_take (i := 5) (oi := { dst := some 77, op := Op.load 35 (Operand.tmp 3), type := 35, pos := "sale.go:141", after := #[], guard := none }) (v := ?_) rfl (by kernel_rfl) (by kernel_rfl) (by kernel_rfl) (fun _ _ _ h => h) (Or.inl ⟨by kernel_rfl, ?_⟩) hHeld ?_
        rotate_left
        · (intro w hSw; (try dsimp only at hSw); obtain ⟨⟨v1, hp⟩, hx2⟩ := hSw; have e0 := cell_of_block hp 0; have x0 := cell_of_block hx2 0; have x1 := cell_of_block hx2 1; have x2 := cell_of_block hx2 2; have x3 := cell_of_block hx2 3; have x4 := cell_of_block hx2 4; have x5 := cell_of_block hx2 5; have x6 := cell_of_block hx2 6; have x7 := cell_of_block hx2 7; go_simp); try with_reducible rfl
        try simp only [Act.put, List.setIfInBounds_toArray, List.set_cons_zero, List.set_cons_succ]
        refine wpAnyH_take (i := 8) (oi := { dst := some 80, op := Op.move (Operand.tmp 0), type := 49, pos := "sale.go:141", after := #[], guard := none }) (v := ?_) rfl (by kernel_rfl) (by kernel_rfl) (by kernel_rfl) (fun _ _ _ h => h) (Or.inl ⟨by kernel_rfl, ?_⟩) hHeld ?_
        rotate_left
        · (intro w hSw; (try dsimp only at hSw); obtain ⟨⟨v1, hp⟩, hx2⟩ := hSw; have e0 := cell_of_block hp 0; have x0 := cell_of_block hx2 0; have x1 := cell_of_block hx2 1; have x2 := cell_of_block hx2 2; have x3 := cell_of_block hx2 3; have x4 := cell_of_block hx2 4; have x5 := cell_of_block hx2 5; have x6 := cell_of_block hx2 6; have x7 := cell_of_block hx2 7; go_simp); try with_reducible rfl
        try simp only [Act.put, List.setIfInBounds_toArray, List.set_cons_zero, List.set_cons_succ]
        refine wpAnyH_take (i := 9) (oi := { dst := some 81, op := Op.nilCheck (Operand.tmp 80), type := 0, pos := "sale.go:141", after := #[{ on := 8, ground := Ground.data }], guard := none }) (v := ?_) rfl (by kernel_rfl) (by kernel_rfl) (by kernel_rfl) (fun _ _ _ h => h) (Or.inl ⟨by kernel_rfl, ?_⟩) hHeld ?_
        rotate_left
        · (intro w hSw; (try dsimp only at hSw); obtain ⟨⟨v1, hp⟩, hx2⟩ := hSw; have e0 := cell_of_block hp 0; have x0 := cell_of_block hx2 0; have x1 := cell_of_block hx2 1; have x2 := cell_of_block hx2 2; have x3 := cell_of_block hx2 3; have x4 := cell_of_block hx2 4; have x5 := cell_of_block hx2 5; have x6 := cell_of_block hx2 6; have x7 := cell_of_block hx2 7; go_simp); try with_reducible rfl
        try simp only [Act.put, List.setIfInBounds_toArray, List.set_cons_zero, List.set_cons_succ]
        refine wpAnyH_take (i := 10) (oi := { dst := some 82, op := Op.fieldAddr 101 (Operand.tmp 81) 0, type := 0, pos := "sale.go:141", after := #[{ on := 9, ground := Ground.data }], guard := none }) (v := ?_) rfl (by kernel_rfl) (by kernel_rfl) (by kernel_rfl) (fun _ _ _ h => h) (Or.inl ⟨by kernel_rfl, ?_⟩) hHeld ?_
        rotate_left
        · (intro w hSw; (try dsimp only at hSw); obtain ⟨⟨v1, hp⟩, hx2⟩ := hSw; have e0 := cell_of_block hp 0; have x0 := cell_of_block hx2 0; have x1 := cell_of_block hx2 1; have x2 := cell_of_block hx2 2; have x3 := cell_of_block hx2 3; have x4 := cell_of_block hx2 4; have x5 := cell_of_block hx2 5; have x6 := cell_of_block hx2 6; have x7 := cell_of_block hx2 7; go_simp); try with_reducible rfl
        try simp only [Act.put, List.setIfInBounds_toArray, List.set_cons_zero, List.set_cons_succ]
        refine wpAnyH_take (i := 11) (oi := { dst := some 83, op := Op.load 3 (Operand.tmp 82), type := 3, pos := "sale.go:141", after := #[{ on := 10, ground := Ground.data }], guard := none }) (v := ?_) rfl (by kernel_rfl) (by kernel_rfl) (by kernel_rfl) (fun _ _ _ h => h) (Or.inl ⟨by kernel_rfl, ?_⟩) hHeld ?_
        rotate_left
        · (intro w hSw; (try dsimp only at hSw); obtain ⟨⟨v1, hp⟩, hx2⟩ := hSw; have e0 := cell_of_block hp 0; have x0 := cell_of_block hx2 0; have x1 := cell_of_block hx2 1; have x2 := cell_of_block hx2 2; have x3 := cell_of_block hx2 3; have x4 := cell_of_block hx2 4; have x5 := cell_of_block hx2 5; have x6 := cell_of_block hx2 6; have x7 := cell_of_block hx2 7; go_simp); try with_reducible rfl
        try simp only [Act.put, List.setIfInBounds_toArray, List.set_cons_zero, List.set_cons_succ]
        refine wpAnyH_ready (rs := [4, 6]) (by kernel_rfl) (by simp) (AllReadyH.cons (o := { dst := some 76, op := Op.load 67 (Operand.tmp 75), type := 67, pos := "sale.go:141", after := #[{ on := 3, ground := Ground.data }], guard := none }) rfl (fun K hK => ?_) (AllReadyH.cons (o := { dst := some 78, op := Op.buildSlice 67 1 #[(0, Operand.tmp 77)], type := 67, pos := "sale.go:141", after := #[{ on := 5, ground := Ground.data }], guard := none }) rfl (fun K hK => ?_) AllReadyH.nil))
        · have hOld := hide hHeld
          clear hHeld
          go_simp
          skip
          (try go_wp2_with fail)
          refine hK.out _ _ (hOld.out) (fun hHeld => ?_)
          clear hK K hOld
          try simp only [Act.put, List.setIfInBounds_toArray, List.set_cons_zero, List.set_cons_succ]
          refine wpAnyH_ready (rs := [6]) (by kernel_rfl) (by simp) (AllReadyH.cons (o := { dst := some 78, op := Op.buildSlice 67 1 #[(0, Operand.tmp 77)], type := 67, pos := "sale.go:141", after := #[{ on := 5, ground := Ground.data }], guard := none }) rfl (fun K hK => ?_) AllReadyH.nil)
          have hOld := hide hHeld
          clear hHeld
          go_simp
          skip
          (try go_wp2_with fail)
          refine hK.out _ _ (⟨⟨_, HDA.out⟩, XA.out⟩) (fun hHeld => ?_)
          clear hK K hOld
          try simp only [Act.put, List.setIfInBounds_toArray, List.set_cons_zero, List.set_cons_succ]
          refine wpAnyH_ready (rs := [7]) (by kernel_rfl) (by simp) (AllReadyH.cons (o := { dst := some 79, op := Op.call { callee := Callee.builtin Builtin.append, args := #[Operand.tmp 76, Operand.tmp 78], argTypes := #[67, 67] }, type := 67, pos := "sale.go:141", after := #[{ on := 4, ground := Ground.data }, { on := 6, ground := Ground.data }], guard := none }) rfl (fun K hK => ?_) AllReadyH.nil)
          have hOld := hide hHeld
          clear hHeld
          clear g2 g2A
          refine wp_append_off _ (.tmp 76) (.tmp 78) 67 rfl B 35 i0 (.agg #[.int .i64 0, .int .u8 0, .int .i64 0, .int .i64 0, .int .i64 0, .int .i64 0, .bool false, .slice none 0 0]) 8 80 Try.underlying67 HI.out HZ0.out HZ1.out HZ2.out rfl (by decide) v T1.length (T1.flatMap txC) rfl ROA.out ⟨v0.heap.size, 0, none⟩ 1 1 (by decide) [.int .i64 next, .int .u8 x.t.kind, .int .i64 x.t.shift, .int .i64 x.t.ref, .int .i64 x.t.amt, .int .i64 0, .bool false, .slice a3 x.t.L.length c3] rfl rfl (cells_new XB.out) (by simp [Value.oneCell']) (by unfold maxLen; omega) (by omega) hwa ?_
          intro g3 o3 c4 w3 ho hgr hnil
          have RO3 := hide ho
          have KT3 := hide (KTA.out.add (KeepsT.offGrown ROA.out (by decide) hgr) (onlyL_of_grown hgr) (fun r hr => .inl (HQV.out r (Option.mem_toList.1 hr))))
          have HD3 := hide ((hgr.block p (heap_lt HDA.out) (fun e => by obtain ⟨cc, fz, hc⟩ := ROA.out.kind p e.symm; rw [HDA.out] at hc; simp only [Option.some.injEq, Obj.cells.injEq] at hc; exact absurd hc.2.1 (by decide))).trans HDA.out)
          have X3 := hide ((hgr.block q (heap_lt XA.out) (fun e => HQN.out q e.symm rfl)).trans XA.out)
          have LN3 := hide (show ∀ y ∈ T1, LnT w3 y.la y.t.L from fun y hy => (LNA.out y hy).keepsT (KeepsT.offGrown ROA.out (Ts := SaleTs) (by decide) hgr) (by decide))
          have L33 := hide (L3A.out.keepsT (KeepsT.offGrown ROA.out (Ts := SaleTs) (by decide) hgr) (by decide))
          have BW3 := hide (BWA.out.grown hgr (Nat.le_trans HBS.out BWA.out.size) (fun jj hj => (ROA.out.lt jj hj).1))
          clear ho hgr hnil HDA XA ROA LNA L3A BWA KTA hwa
          refine hK.out _ _ (⟨⟨_, HD3.out⟩, X3.out⟩) (fun hHeld => ?_)
          clear hK K hOld
          try simp only [Act.put, List.setIfInBounds_toArray, List.set_cons_zero, List.set_cons_succ]
          refine wpAnyH_ready (rs := [12]) (by kernel_rfl) (by simp) (AllReadyH.cons (o := { dst := some 84, op := Op.call { callee := Callee.value (Operand.func 45), args := #[Operand.tmp 79, Operand.tmp 83], argTypes := #[67, 3] }, type := 67, pos := "sale.go:141", after := #[{ on := 7, ground := Ground.data }, { on := 11, ground := Ground.data }, { on := 7, ground := Ground.chain }], guard := none }) rfl (fun K hK => ?_) AllReadyH.nil)
          have hOld := hide hHeld
          clear hHeld
          go_simp
          refine (lastsl_any g3 o3 (T1.length + 1) c4 keep HKP.out (by omega) (OffRow.cap RO3.out) (OffRow.capMax RO3.out) _ rfl w3).mono ?_
          rintro e w4 ⟨rfl, rfl⟩
          have d2 := cell_of_block HD3.out 2
          have z2 := frozen_of_block HD3.out 2
          (try go_wp2_with fail)
          refine hK.out _ _ (⟨⟨_, HD3.out⟩, X3.out⟩) (fun hHeld => ?_)
          clear hK K hOld
          try simp only [Act.put, List.setIfInBounds_toArray, List.set_cons_zero, List.set_cons_succ]
          refine wpAnyH_take (i := 13) (oi := { dst := some 85, op := Op.nilCheck (Operand.tmp 72), type := 0, pos := "sale.go:141", after := #[{ on := 0, ground := Ground.data }, { on := 0, ground := Ground.phase }, { on := 1, ground := Ground.phase }, { on := 2, ground := Ground.phase }, { on := 3, ground := Ground.phase }, { on := 4, ground := Ground.phase }, { on := 5, ground := Ground.phase }, { on := 6, ground := Ground.phase }, { on := 7, ground := Ground.phase }, { on := 8, ground := Ground.phase }, { on := 9, ground := Ground.phase }, { on := 10, ground := Ground.phase }, { on := 11, ground := Ground.phase }, { on := 12, ground := Ground.phase }], guard := none }) (v := ?_) rfl (by kernel_rfl) (by kernel_rfl) (by kernel_rfl) (fun _ _ _ h => h) (Or.inl ⟨by kernel_rfl, ?_⟩) hHeld ?_
          rotate_left
          · (intro w hSw; (try dsimp only at hSw); obtain ⟨⟨v1, hp⟩, hx2⟩ := hSw; have e0 := cell_of_block hp 0; have x0 := cell_of_block hx2 0; have x1 := cell_of_block hx2 1; have x2 := cell_of_block hx2 2; have x3 := cell_of_block hx2 3; have x4 := cell_of_block hx2 4; have x5 := cell_of_block hx2 5; have x6 := cell_of_block hx2 6; have x7 := cell_of_block hx2 7; go_simp); try with_reducible rfl
          try simp only [Act.put, List.setIfInBounds_toArray, List.set_cons_zero, List.set_cons_succ]
          refine wpAnyH_take (i := 14) (oi := { dst := some 86, op := Op.fieldAddr 101 (Operand.tmp 85) 2, type := 0, pos := "sale.go:141", after := #[{ on := 13, ground := Ground.data }, { on := 0, ground := Ground.phase }, { on := 1, ground := Ground.phase }, { on := 2, ground := Ground.phase }, { on := 3, ground := Ground.phase }, { on := 4, ground := Ground.phase }, { on := 5, ground := Ground.phase }, { on := 6, ground := Ground.phase }, { on := 7, ground := Ground.phase }, { on := 8, ground := Ground.phase }, { on := 9, ground := Ground.phase }, { on := 10, ground := Ground.phase }, { on := 11, ground := Ground.phase }, { on := 12, ground := Ground.phase }], guard := none }) (v := ?_) rfl (by kernel_rfl) (by kernel_rfl) (by kernel_rfl) (fun _ _ _ h => h) (Or.inl ⟨by kernel_rfl, ?_⟩) hHeld ?_
          rotate_left
          · (intro w hSw; (try dsimp only at hSw); obtain ⟨⟨v1, hp⟩, hx2⟩ := hSw; have e0 := cell_of_block hp 0; have x0 := cell_of_block hx2 0; have x1 := cell_of_block hx2 1; have x2 := cell_of_block hx2 2; have x3 := cell_of_block hx2 3; have x4 := cell_of_block hx2 4; have x5 := cell_of_block hx2 5; have x6 := cell_of_block hx2 6; have x7 := cell_of_block hx2 7; go_simp); try with_reducible rfl
          try simp only [Act.put, List.setIfInBounds_toArray, List.set_cons_zero, List.set_cons_succ]
          refine wpAnyH_ready (rs := [15]) (by kernel_rfl) (by simp) (AllReadyH.cons (o := { dst := none, op := Op.store 67 (Operand.tmp 86) (Operand.tmp 84), type := 0, pos := "sale.go:141", after := #[{ on := 14, ground := Ground.data }, { on := 12, ground := Ground.data }, { on := 12, ground := Ground.chain }, { on := 0, ground := Ground.phase }, { on := 1, ground := Ground.phase }, { on := 2, ground := Ground.phase }, { on := 3, ground := Ground.phase }, { on := 4, ground := Ground.phase }, { on := 5, ground := Ground.phase }, { on := 6, ground := Ground.phase }, { on := 7, ground := Ground.phase }, { on := 8, ground := Ground.phase }, { on := 9, ground := Ground.phase }, { on := 10, ground := Ground.phase }, { on := 11, ground := Ground.phase }, { on := 12, ground := Ground.phase }], guard := none }) rfl (fun K hK => ?_) AllReadyH.nil)
          have hOld := hide hHeld
          clear hHeld
          go_simp
          skip
          (try go_wp2_with fail)
          refine hK.out _ _ (⟨⟨_, block_setCell HD3.out 2 _⟩, (block_setCell_other HPQ.out 2 _).trans X3.out⟩) (fun hHeld => ?_)
          clear hK K hOld
          try simp only [Act.put, List.setIfInBounds_toArray, List.set_cons_zero, List.set_cons_succ]
          refine wpAnyH_done (by kernel_rfl) ?_ _
          clear hHeld
          have HD4 := hide (block_setCell HD3.out 2 (.slice (some ⟨g3, o3 + (T1.length + 1 - keep.toNat) * 8, none⟩) (T1.length + 1 - (T1.length + 1 - keep.toNat)) (c4 - (T1.length + 1 - keep.toNat))))
          have X4 := hide ((block_setCell_other (v := .slice (some ⟨g3, o3 + (T1.length + 1 - keep.toNat) * 8, none⟩) (T1.length + 1 - (T1.length + 1 - keep.toNat)) (c4 - (T1.length + 1 - keep.toNat))) HPQ.out 2).trans X3.out)
          have K4 := hide (KeepsT.setCell (Ts := [101]) HD3.out (by decide) 2 (.slice (some ⟨g3, o3 + (T1.length + 1 - keep.toNat) * 8, none⟩) (T1.length + 1 - (T1.length + 1 - keep.toNat)) (c4 - (T1.length + 1 - keep.toNat))))
          have O4 := hide (OnlyL.setCell (qs := [p]) (a := w3) (q := p) (by simp) 2 (.slice (some ⟨g3, o3 + (T1.length + 1 - keep.toNat) * 8, none⟩) (T1.length + 1 - (T1.length + 1 - keep.toNat)) (c4 - (T1.length + 1 - keep.toNat))))
          have B4 := hide (BW3.out.setCell (p := ⟨p, 2, none⟩) HLOW.out (.slice (some ⟨g3, o3 + (T1.length + 1 - keep.toNat) * 8, none⟩) (T1.length + 1 - (T1.length + 1 - keep.toNat)) (c4 - (T1.length + 1 - keep.toNat))))
          generalize w3.setCell ⟨p, 2, none⟩ (.slice (some ⟨g3, o3 + (T1.length + 1 - keep.toNat) * 8, none⟩) (T1.length + 1 - (T1.length + 1 - keep.toNat)) (c4 - (T1.length + 1 - keep.toNat))) = w4 at *
          have RO4 := hide ((RO3.out.drop (T1.length + 1 - keep.toNat) (by omega)).keepsT K4.out (by decide))
          have LN4 := hide (show ∀ y ∈ T1, LnT w4 y.la y.t.L from fun y hy => (LN3.out y hy).keepsT K4.out (by decide))
          have L34 := hide (L33.out.keepsT K4.out (by decide))
          have KT4 := hide (KT3.out.add (K4.out.mono (by decide)) O4.out (fun r hr => .inl (by rw [List.mem_singleton.1 hr]; exact HQP.out)))
          clear HD3 X3 K4 O4 RO3 LN3 L33 BW3 KT3
          have e0 := cell_of_block X4.out 0
          go_wp2_with fail
          go_ret2
          exact HFIN.out _ _ _ _ a3 c3 HD4.out RO4.out LN4.out L34.out B4.out KT4.out
          
        · have hOld := hide hHeld
          clear hHeld
          go_simp
          skip
          (try go_wp2_with fail)
          refine hK.out _ _ (⟨⟨_, HDA.out⟩, XA.out⟩) (fun hHeld => ?_)
          clear hK K hOld
          try simp only [Act.put, List.setIfInBounds_toArray, List.set_cons_zero, List.set_cons_succ]
          refine wpAnyH_ready (rs := [4]) (by kernel_rfl) (by simp) (AllReadyH.cons (o := { dst := some 76, op := Op.load 67 (Operand.tmp 75), type := 67, pos := "sale.go:141", after := #[{ on := 3, ground := Ground.data }], guard := none }) rfl (fun K hK => ?_) AllReadyH.nil)
          have hOld := hide hHeld
          clear hHeld
          go_simp
          skip
          (try go_wp2_with fail)
          refine hK.out _ _ (hOld.out) (fun hHeld => ?_)
          clear hK K hOld
          try simp only [Act.put, List.setIfInBounds_toArray, List.set_cons_zero, List.set_cons_succ]
          refine wpAnyH_ready (rs := [7]) (by kernel_rfl) (by simp) (AllReadyH.cons (o := { dst := some 79, op := Op.call { callee := Callee.builtin Builtin.append, args := #[Operand.tmp 76, Operand.tmp 78], argTypes := #[67, 67] }, type := 67, pos := "sale.go:141", after := #[{ on := 4, ground := Ground.data }, { on := 6, ground := Ground.data }], guard := none }) rfl (fun K hK => ?_) AllReadyH.nil)
          have hOld := hide hHeld
          clear hHeld
          clear g2 g2A
          refine wp_append_off _ (.tmp 76) (.tmp 78) 67 rfl B 35 i0 (.agg #[.int .i64 0, .int .u8 0, .int .i64 0, .int .i64 0, .int .i64 0, .int .i64 0, .bool false, .slice none 0 0]) 8 80 Try.underlying67 HI.out HZ0.out HZ1.out HZ2.out rfl (by decide) v T1.length (T1.flatMap txC) rfl ROA.out ⟨v0.heap.size, 0, none⟩ 1 1 (by decide) [.int .i64 next, .int .u8 x.t.kind, .int .i64 x.t.shift, .int .i64 x.t.ref, .int .i64 x.t.amt, .int .i64 0, .bool false, .slice a3 x.t.L.length c3] rfl rfl (cells_new XB.out) (by simp [Value.oneCell']) (by unfold maxLen; omega) (by omega) hwa ?_
          intro g3 o3 c4 w3 ho hgr hnil
          have RO3 := hide ho
          have KT3 := hide (KTA.out.add (KeepsT.offGrown ROA.out (by decide) hgr) (onlyL_of_grown hgr) (fun r hr => .inl (HQV.out r (Option.mem_toList.1 hr))))
          have HD3 := hide ((hgr.block p (heap_lt HDA.out) (fun e => by obtain ⟨cc, fz, hc⟩ := ROA.out.kind p e.symm; rw [HDA.out] at hc; simp only [Option.some.injEq, Obj.cells.injEq] at hc; exact absurd hc.2.1 (by decide))).trans HDA.out)
          have X3 := hide ((hgr.block q (heap_lt XA.out) (fun e => HQN.out q e.symm rfl)).trans XA.out)
          have LN3 := hide (show ∀ y ∈ T1, LnT w3 y.la y.t.L from fun y hy => (LNA.out y hy).keepsT (KeepsT.offGrown ROA.out (Ts := SaleTs) (by decide) hgr) (by decide))
          have L33 := hide (L3A.out.keepsT (KeepsT.offGrown ROA.out (Ts := SaleTs) (by decide) hgr) (by decide))
          have BW3 := hide (BWA.out.grown hgr (Nat.le_trans HBS.out BWA.out.size) (fun jj hj => (ROA.out.lt jj hj).1))
          clear ho hgr hnil HDA XA ROA LNA L3A BWA KTA hwa
          refine hK.out _ _ (⟨⟨_, HD3.out⟩, X3.out⟩) (fun hHeld => ?_)
          clear hK K hOld
          try simp only [Act.put, List.setIfInBounds_toArray, List.set_cons_zero, List.set_cons_succ]
          refine wpAnyH_ready (rs := [12]) (by kernel_rfl) (by simp) (AllReadyH.cons (o := { dst := some 84, op := Op.call { callee := Callee.value (Operand.func 45), args := #[Operand.tmp 79, Operand.tmp 83], argTypes := #[67, 3] }, type := 67, pos := "sale.go:141", after := #[{ on := 7, ground := Ground.data }, { on := 11, ground := Ground.data }, { on := 7, ground := Ground.chain }], guard := none }) rfl (fun K hK => ?_) AllReadyH.nil)
          have hOld := hide hHeld
          clear hHeld
          go_simp
          refine (lastsl_any g3 o3 (T1.length + 1) c4 keep HKP.out (by omega) (OffRow.cap RO3.out) (OffRow.capMax RO3.out) _ rfl w3).mono ?_
          rintro e w4 ⟨rfl, rfl⟩
          have d2 := cell_of_block HD3.out 2
          have z2 := frozen_of_block HD3.out 2
          (try go_wp2_with fail)
          refine hK.out _ _ (⟨⟨_, HD3.out⟩, X3.out⟩) (fun hHeld => ?_)
          clear hK K hOld
          try simp only [Act.put, List.setIfInBounds_toArray, List.set_cons_zero, List.set_cons_succ]
          refine wpAnyH_take (i := 13) (oi := { dst := some 85, op := Op.nilCheck (Operand.tmp 72), type := 0, pos := "sale.go:141", after := #[{ on := 0, ground := Ground.data }, { on := 0, ground := Ground.phase }, { on := 1, ground := Ground.phase }, { on := 2, ground := Ground.phase }, { on := 3, ground := Ground.phase }, { on := 4, ground := Ground.phase }, { on := 5, ground := Ground.phase }, { on := 6, ground := Ground.phase }, { on := 7, ground := Ground.phase }, { on := 8, ground := Ground.phase }, { on := 9, ground := Ground.phase }, { on := 10, ground := Ground.phase }, { on := 11, ground := Ground.phase }, { on := 12, ground := Ground.phase }], guard := none }) (v := ?_) rfl (by kernel_rfl) (by kernel_rfl) (by kernel_rfl) (fun _ _ _ h => h) (Or.inl ⟨by kernel_rfl, ?_⟩) hHeld ?_
          rotate_left
          · (intro w hSw; (try dsimp only at hSw); obtain ⟨⟨v1, hp⟩, hx2⟩ := hSw; have e0 := cell_of_block hp 0; have x0 := cell_of_block hx2 0; have x1 := cell_of_block hx2 1; have x2 := cell_of_block hx2 2; have x3 := cell_of_block hx2 3; have x4 := cell_of_block hx2 4; have x5 := cell_of_block hx2 5; have x6 := cell_of_block hx2 6; have x7 := cell_of_block hx2 7; go_simp); try with_reducible rfl
          try simp only [Act.put, List.setIfInBounds_toArray, List.set_cons_zero, List.set_cons_succ]
          refine wpAnyH_take (i := 14) (oi := { dst := some 86, op := Op.fieldAddr 101 (Operand.tmp 85) 2, type := 0, pos := "sale.go:141", after := #[{ on := 13, ground := Ground.data }, { on := 0, ground := Ground.phase }, { on := 1, ground := Ground.phase }, { on := 2, ground := Ground.phase }, { on := 3, ground := Ground.phase }, { on := 4, ground := Ground.phase }, { on := 5, ground := Ground.phase }, { on := 6, ground := Ground.phase }, { on := 7, ground := Ground.phase }, { on := 8, ground := Ground.phase }, { on := 9, ground := Ground.phase }, { on := 10, ground := Ground.phase }, { on := 11, ground := Ground.phase }, { on := 12, ground := Ground.phase }], guard := none }) (v := ?_) rfl (by kernel_rfl) (by kernel_rfl) (by kernel_rfl) (fun _ _ _ h => h) (Or.inl ⟨by kernel_rfl, ?_⟩) hHeld ?_
          rotate_left
          · (intro w hSw; (try dsimp only at hSw); obtain ⟨⟨v1, hp⟩, hx2⟩ := hSw; have e0 := cell_of_block hp 0; have x0 := cell_of_block hx2 0; have x1 := cell_of_block hx2 1; have x2 := cell_of_block hx2 2; have x3 := cell_of_block hx2 3; have x4 := cell_of_block hx2 4; have x5 := cell_of_block hx2 5; have x6 := cell_of_block hx2 6; have x7 := cell_of_block hx2 7; go_simp); try with_reducible rfl
          try simp only [Act.put, List.setIfInBounds_toArray, List.set_cons_zero, List.set_cons_succ]
          refine wpAnyH_ready (rs := [15]) (by kernel_rfl) (by simp) (AllReadyH.cons (o := { dst := none, op := Op.store 67 (Operand.tmp 86) (Operand.tmp 84), type := 0, pos := "sale.go:141", after := #[{ on := 14, ground := Ground.data }, { on := 12, ground := Ground.data }, { on := 12, ground := Ground.chain }, { on := 0, ground := Ground.phase }, { on := 1, ground := Ground.phase }, { on := 2, ground := Ground.phase }, { on := 3, ground := Ground.phase }, { on := 4, ground := Ground.phase }, { on := 5, ground := Ground.phase }, { on := 6, ground := Ground.phase }, { on := 7, ground := Ground.phase }, { on := 8, ground := Ground.phase }, { on := 9, ground := Ground.phase }, { on := 10, ground := Ground.phase }, { on := 11, ground := Ground.phase }, { on := 12, ground := Ground.phase }], guard := none }) rfl (fun K hK => ?_) AllReadyH.nil)
          have hOld := hide hHeld
          clear hHeld
          go_simp
          skip
          (try go_wp2_with fail)
          refine hK.out _ _ (⟨⟨_, block_setCell HD3.out 2 _⟩, (block_setCell_other HPQ.out 2 _).trans X3.out⟩) (fun hHeld => ?_)
          clear hK K hOld
          try simp only [Act.put, List.setIfInBounds_toArray, List.set_cons_zero, List.set_cons_succ]
          refine wpAnyH_done (by kernel_rfl) ?_ _
          clear hHeld
          have HD4 := hide (block_setCell HD3.out 2 (.slice (some ⟨g3, o3 + (T1.length + 1 - keep.toNat) * 8, none⟩) (T1.length + 1 - (T1.length + 1 - keep.toNat)) (c4 - (T1.length + 1 - keep.toNat))))
          have X4 := hide ((block_setCell_other (v := .slice (some ⟨g3, o3 + (T1.length + 1 - keep.toNat) * 8, none⟩) (T1.length + 1 - (T1.length + 1 - keep.toNat)) (c4 - (T1.length + 1 - keep.toNat))) HPQ.out 2).trans X3.out)
          have K4 := hide (KeepsT.setCell (Ts := [101]) HD3.out (by decide) 2 (.slice (some ⟨g3, o3 + (T1.length + 1 - keep.toNat) * 8, none⟩) (T1.length + 1 - (T1.length + 1 - keep.toNat)) (c4 - (T1.length + 1 - keep.toNat))))
          have O4 := hide (OnlyL.setCell (qs := [p]) (a := w3) (q := p) (by simp) 2 (.slice (some ⟨g3, o3 + (T1.length + 1 - keep.toNat) * 8, none⟩) (T1.length + 1 - (T1.length + 1 - keep.toNat)) (c4 - (T1.length + 1 - keep.toNat))))
          have B4 := hide (BW3.out.setCell (p := ⟨p, 2, none⟩) HLOW.out (.slice (some ⟨g3, o3 + (T1.length + 1 - keep.toNat) * 8, none⟩) (T1.length + 1 - (T1.length + 1 - keep.toNat)) (c4 - (T1.length + 1 - keep.toNat))))
          generalize w3.setCell ⟨p, 2, none⟩ (.slice (some ⟨g3, o3 + (T1.length + 1 - keep.toNat) * 8, none⟩) (T1.length + 1 - (T1.length + 1 - keep.toNat)) (c4 - (T1.length + 1 - keep.toNat))) = w4 at *
          have RO4 := hide ((RO3.out.drop (T1.length + 1 - keep.toNat) (by omega)).keepsT K4.out (by decide))
          have LN4 := hide (show ∀ y ∈ T1, LnT w4 y.la y.t.L from fun y hy => (LN3.out y hy).keepsT K4.out (by decide))
          have L34 := hide (L33.out.keepsT K4.out (by decide))
          have KT4 := hide (KT3.out.add (K4.out.mono (by decide)) O4.out (fun r hr => .inl (by rw [List.mem_singleton.1 hr]; exact HQP.out)))
          clear HD3 X3 K4 O4 RO3 LN3 L33 BW3 KT3
          have e0 := cell_of_block X4.out 0
          go_wp2_with fail
          go_ret2
          exact HFIN.out _ _ _ _ a3 c3 HD4.out RO4.out LN4.out L34.out B4.out KT4.out
          
  | true =>
    have HBT := hide hbk
    have HRF := hide HXO.out.ref
    have x0 := cell_of_block X2.out 0
    have x1 := cell_of_block X2.out 1
    have x2 := cell_of_block X2.out 2
    have x3 := cell_of_block X2.out 3
    have x4 := cell_of_block X2.out 4
    have x5 := cell_of_block X2.out 5
    have x6 := cell_of_block X2.out 6
    have x7 := cell_of_block X2.out 7
    have hml : (T.map (·.t)).length = T.length := List.length_map ..
    cases hf : findT T.length next x.t.ref with
    | none =>
      have HE := hide (show addE (T.map (·.t)) next x.t = 15 by
        have e1 : ofT (T.map (·.t)) next x.t = none := by unfold ofT; rw [hml, hf]; rfl
        rw [HAE.out, e1, if_pos ⟨hbk, by show ¬ ((15 : Int) = 0); decide⟩]; rfl)
      have HF := hide (slfind_none B p keep next v T x.t.ref HRF.out hf w2 RG2.out)
      clear hbk hf HAE hml
      go_wp2_with fail
      refine HF.out.mono ?_
      rintro e w3 ⟨rfl, m, rfl⟩
      have RG3 := hide (RG2.out.drewN m)
      have BW3 := hide (below_dn BW2.out m)
      have KT3 := hide (KT2.out.drewN m)
      have HTN := hide (takes_nil x (w2.drewN m))
      unfold txV txC at HTN
      go_wp2_with fail
      refine HTN.out.mono ?_
      rintro e w4 ⟨rfl, hb⟩
      have RG4 := hide (RG3.out.below hb)
      have BW4 := hide (BW3.out.trans (hb.mono (Nat.le_trans HBS.out BW3.out.size)))
      have KT4 := hide (KT3.out.below hb)
      rw [show takesE x.t none = 15 from rfl]
      clear hb HTN HF x0 x1 x2 x3 x4 x5 x6 x7
      go_wp2_with fail
      go_ret2
      exact HAN.out _ _ RG4.out HE.out (by decide) BW4.out KT4.out
    | some i =>
      obtain ⟨hi, -⟩ := findT_lt hf
      obtain ⟨a, cap, rfl⟩ := RG2.out.row.split
      obtain ⟨g, o, rfl, hg1, hg2, hcell, hfz⟩ := OffRow.rows txC txC_length ta0 RG2.out.row rfl (by decide) i hi
      have HMD := hide (show (T.map (·.t)).getD i tx0 = (T.getD i ta0).t by simp [List.getD, hi])
      have HMX := hide (show (T.getD i ta0) ∈ T by simp [List.getD, hi])
      have HOF := hide (show ofT (T.map (·.t)) next x.t = some (T.getD i ta0).t by unfold ofT; rw [hml, hf]; show some ((T.map (·.t)).getD i tx0) = _; rw [HMD.out])
      have HF := hide (slfind_some B p keep next g o cap T x.t.ref i hf w2 RG2.out)
      have HFT := hide (show findT (T.map (·.t)).length next x.t.ref = some i by rw [hml]; exact hf)
      rw [HOF.out] at HAE
      clear hf hml
      go_wp2_with fail
      refine HF.out.mono ?_
      rintro e w3 ⟨rfl, m, rfl⟩
      have X3 := hide (show (w2.drewN m).heap[q]? = _ from X2.out)
      have RG3 := hide (RG2.out.drewN m)
      have BW3 := hide (below_dn BW2.out m)
      have KT3 := hide (KT2.out.drewN m)
      have LX3 := hide (LX2.out.drewN m)
      have HTK := hide (takes_any x (T.getD i ta0).t g (o + i * 8) (w2.drewN m) hg2 (hcell 1 (by decide)) (hcell 4 (by decide)) (hcell 5 (by decide)) (hcell 6 (by decide)))
      unfold txV txC at HTK
      clear hcell hfz hg1 hg2 X2 RG2 BW2 KT2 LX2 HF
      generalize hs : (T.getD i ta0).t = s at *
      have HSM := hide hs
      clear hs
      go_wp2_with fail
      refine HTK.out.mono ?_
      rintro e w4 ⟨rfl, hb⟩
      have X4 := hide ((hb.block _ (heap_lt X3.out)).trans X3.out)
      have RG4 := hide (RG3.out.below hb)
      have BW4 := hide (BW3.out.trans (hb.mono (Nat.le_trans HBS.out BW3.out.size)))
      have KT4 := hide (KT3.out.below hb)
      have LX4 := hide (LX3.out.below hb)
      clear hb HTK X3 RG3 BW3 KT3 LX3 x0 x1 x2 x3 x4 x5 x6 x7
      by_cases hte : takesE x.t (some s) = 0
      · have HTE := hide hte
        rw [if_neg (fun h => h.2 hte)] at HAE
        rw [hte]
        clear hte hbk
        have c1 := cell_of_block RG4.out.head 1
        by_cases hmx : next > 4294967295
        · have HE := hide (show addE (T.map (·.t)) next x.t = 7 by rw [HAE.out, if_pos hmx])
          clear HAE
          go_wp2_with fail
          go_ret2
          exact HAN.out _ _ RG4.out HE.out (by decide) BW4.out KT4.out
        · have HE := hide (show addE (T.map (·.t)) next x.t = 0 by rw [HAE.out, if_neg hmx])
          have HKS := hide (show KeptT s by rw [← HSM.out]; exact HOKM.out _ (List.mem_map.2 ⟨_, HMX.out, rfl⟩))
          have hls := left_in HKS.out
          have hla := amt_in HRT.out
          have hwl : IntKind.i64.wrap (s.left - x.t.amt) = s.left - x.t.amt := wrap_in (by unfold inR; omega)
          obtain ⟨g', o', hgo, hg1, hg2, hcell, hfz⟩ := OffRow.rows txC txC_length ta0 RG4.out.row rfl (by decide) i hi
          simp only [Option.some.injEq, Addr.mk.injEq, and_true] at hgo
          obtain ⟨rfl, rfl⟩ := hgo
          have HCL := hide (fun j hj => hcell j hj)
          have HFZ := hide hfz
          clear HAE hls hla hcell hfz
          go_upto_region 14 with (fail)
          clear c1 hmx
          have X5 := hide (show w4.drew.heap[q]? = _ from X4.out)
          have HD5 := hide (show w4.drew.heap[p]? = _ from RG4.out.head)
          have RO5 := hide RG4.out.row.drew
          have LN5 := hide (show ∀ y ∈ T, LnT w4.drew y.la y.t.L from fun y hy => RG4.out.lines y hy)
          have LX5 := hide (show LnT w4.drew x.la x.t.L from LX4.out)
          have BW5 := hide BW4.out.drew
          have KT5 := hide KT4.out.drew
          have d5 : w4.cell? ⟨g, o + i * 8 + 5, none⟩ = some (.int .i64 s.left) := by rw [HCL.out 5 (by decide), ← HSM.out]; rfl
          have d6 : w4.cell? ⟨g, o + i * 8 + 6, none⟩ = some (.bool s.void) := by rw [HCL.out 6 (by decide), ← HSM.out]; rfl
          have z5 := HFZ.out (o + i * 8 + 5)
          have z6 := HFZ.out (o + i * 8 + 6)
          have x4 := cell_of_block X4.out 4
          have x1 := cell_of_block X4.out 1
          have D5 := hide (show w4.drew.cell? ⟨g, o + i * 8 + 5, none⟩ = some (.int .i64 s.left) from d5)
          have D6 := hide (show w4.drew.cell? ⟨g, o + i * 8 + 6, none⟩ = some (.bool s.void) from d6)
          have Z5 := hide (show w4.drew.frozen? ⟨g, o + i * 8 + 5, none⟩ = false from z5)
          have Z6 := hide (show w4.drew.frozen? ⟨g, o + i * 8 + 6, none⟩ = false from z6)
          have HG5 := hide (show ∃ cc fz, w4.drew.heap[g]? = some (.cells cc 35 fz) from RG4.out.row.kind g rfl)
          have HQG := hide (show g ≠ q from fun e => by have := (HRO0.out g rfl).2; have := HQL.out; omega)
          have HPG := hide (show p ≠ g from fun e => by
            obtain ⟨cc, fz, hc⟩ := HG5.out
            rw [← e, HD5.out] at hc
            simp only [Option.some.injEq, Obj.cells.injEq] at hc
            exact absurd hc.2.1 (by decide))
          clear RG4
          go_still_tail 7, (by kernel_rfl)
          change wpList _ _ _ _ _ w4.drew
          try rw [hwl]
          clear d5 d6 z5 z6 x4 x1 hwl X4 LX4 BW4 KT4 HCL HFZ
          generalize w4.drew = u0 at *
          have d5 := D5.out
          have z5 := Z5.out
          go_upto_region 15 with (fail)
          clear d5 z5
          have K' := hide (show KeepsT SaleTs u0 (u0.setCell ⟨g, o + i * 8 + 5, none⟩ (.int .i64 (s.left - x.t.amt))) from by
            obtain ⟨cc, fz, hc⟩ := HG5.out
            exact KeepsT.setCell (Ts := SaleTs) hc (by decide) _ _)
          have X' := hide ((block_setCell_other (v := .int .i64 (s.left - x.t.amt)) HQG.out (o + i * 8 + 5)).trans X5.out)
          have HD' := hide ((block_setCell_other (v := .int .i64 (s.left - x.t.amt)) (fun e => HPG.out e.symm) (o + i * 8 + 5)).trans HD5.out)
          have RO' := hide (show OffRow (u0.setCell ⟨g, o + i * 8 + 5, none⟩ (.int .i64 (s.left - x.t.amt))) B 35 8 (.slice (some ⟨g, o, none⟩) T.length cap) T.length ((T.flatMap txC).set (i * 8 + 5) (.int .i64 (s.left - x.t.amt))) from by
            have := RO5.out.setCell (i * 8 + 5) (.int .i64 (s.left - x.t.amt)) (by omega)
            rwa [← Nat.add_assoc] at this)
          have LN' := hide (show ∀ y ∈ T, LnT (u0.setCell ⟨g, o + i * 8 + 5, none⟩ (.int .i64 (s.left - x.t.amt))) y.la y.t.L from fun y hy => (LN5.out y hy).keepsT K'.out (by decide))
          have LX' := hide (LX5.out.keepsT K'.out (by decide))
          have BW' := hide (BW5.out.setCell (p := ⟨g, o + i * 8 + 5, none⟩) (HRO0.out g rfl).1 (.int .i64 (s.left - x.t.amt)))
          have KT' := hide (KT5.out.add K'.out (OnlyL.setCell (qs := [g]) (a := u0) (q := g) (by simp) (o + i * 8 + 5) (.int .i64 (s.left - x.t.amt))) (fun r hr => .inl (by rw [List.mem_singleton.1 hr]; exact HQV.out g rfl)))
          have HG' := hide (show ∃ cc fz, (u0.setCell ⟨g, o + i * 8 + 5, none⟩ (.int .i64 (s.left - x.t.amt))).heap[g]? = some (.cells cc 35 fz) from by
            obtain ⟨cc, fz, hc⟩ := HG5.out
            exact ⟨_, fz, block_setCell hc _ _⟩)
          clear X5 HD5 RO5 LN5 LX5 BW5 KT5 K' HG5
          have d6 : (u0.setCell ⟨g, o + i * 8 + 5, none⟩ (.int .i64 (s.left - x.t.amt))).cell? ⟨g, o + i * 8 + 6, none⟩ = some (.bool s.void) := by
            rw [World.cell?_setCell_other _ _ _ _ (fun e => by simp only [Addr.mk.injEq] at e; omega)]; exact D6.out
          have z6 : (u0.setCell ⟨g, o + i * 8 + 5, none⟩ (.int .i64 (s.left - x.t.amt))).frozen? ⟨g, o + i * 8 + 6, none⟩ = false := by
            rw [World.frozen?_setCell]; exact Z6.out
          generalize u0.setCell ⟨g, o + i * 8 + 5, none⟩ (.int .i64 (s.left - x.t.amt)) = u1 at *
          have X6 := hide X'.out
          have HD6 := hide HD'.out
          have RO6 := hide RO'.out
          have LN6 := hide LN'.out
          have LX6 := hide LX'.out
          have BW6 := hide BW'.out
          have KT6 := hide KT'.out
          have HG5 := hide HG'.out
          clear X' HD' RO' LN' LX' BW' KT' HG'
          have x1 := cell_of_block X6.out 1
          go_upto_region 16 with (fail)
          clear d6 z6 x1
          have K' := hide (show KeepsT SaleTs u1 (u1.setCell ⟨g, o + i * 8 + 6, none⟩ (.bool (x.t.kind == 2))) from by
            obtain ⟨cc, fz, hc⟩ := HG5.out
            exact KeepsT.setCell (Ts := SaleTs) hc (by decide) _ _)
          have X' := hide ((block_setCell_other (v := .bool (x.t.kind == 2)) HQG.out (o + i * 8 + 6)).trans X6.out)
          have HD' := hide ((block_setCell_other (v := .bool (x.t.kind == 2)) (fun e => HPG.out e.symm) (o + i * 8 + 6)).trans HD6.out)
          have RO' := hide (show OffRow (u1.setCell ⟨g, o + i * 8 + 6, none⟩ (.bool (x.t.kind == 2))) B 35 8 (.slice (some ⟨g, o, none⟩) T.length cap) T.length (((T.flatMap txC).set (i * 8 + 5) (.int .i64 (s.left - x.t.amt))).set (i * 8 + 6) (.bool (x.t.kind == 2))) from by
            have := RO6.out.setCell (i * 8 + 6) (.bool (x.t.kind == 2)) (by omega)
            rwa [← Nat.add_assoc] at this)
          have LN' := hide (show ∀ y ∈ T, LnT (u1.setCell ⟨g, o + i * 8 + 6, none⟩ (.bool (x.t.kind == 2))) y.la y.t.L from fun y hy => (LN6.out y hy).keepsT K'.out (by decide))
          have LX' := hide (LX6.out.keepsT K'.out (by decide))
          have BW' := hide (BW6.out.setCell (p := ⟨g, o + i * 8 + 6, none⟩) (HRO0.out g rfl).1 (.bool (x.t.kind == 2)))
          have KT' := hide (KT6.out.add K'.out (OnlyL.setCell (qs := [g]) (a := u1) (q := g) (by simp) (o + i * 8 + 6) (.bool (x.t.kind == 2))) (fun r hr => .inl (by rw [List.mem_singleton.1 hr]; exact HQV.out g rfl)))
          have HG' := hide (show ∃ cc fz, (u1.setCell ⟨g, o + i * 8 + 6, none⟩ (.bool (x.t.kind == 2))).heap[g]? = some (.cells cc 35 fz) from by
            obtain ⟨cc, fz, hc⟩ := HG5.out
            exact ⟨_, fz, block_setCell hc _ _⟩)
          clear X6 HD6 RO6 LN6 LX6 BW6 KT6 K' HG5
          generalize u1.setCell ⟨g, o + i * 8 + 6, none⟩ (.bool (x.t.kind == 2)) = u2 at *
          have X := hide X'.out
          have HD := hide HD'.out
          have RO := hide RO'.out
          have LN := hide LN'.out
          have LX := hide LX'.out
          have BW := hide BW'.out
          have KT := hide KT'.out
          have HG5 := hide HG'.out
          clear X' HD' RO' LN' LX' BW' KT' HG'
          obtain ⟨y6, hy6⟩ : ∃ y6 : TxA, y6 = ⟨turnT s x.t, (T.getD i ta0).la, (T.getD i ta0).lc⟩ := ⟨_, rfl⟩
          obtain ⟨T1, hT1⟩ : ∃ T1, T1 = T.set i y6 := ⟨_, rfl⟩
          have HTL := hide (show T1.length = T.length by rw [hT1, List.length_set])
          have HT1 := hide (show T1.map (·.t) = turnsT (T.map (·.t)) next x.t by
            unfold turnsT
            rw [if_pos HBT.out, HFT.out, hT1, List.map_set, hy6]
            show (T.map (·.t)).set i (turnT s x.t) = (T.map (·.t)).set i (turnT ((T.map (·.t)).getD i tx0) x.t)
            rw [HMD.out])
          have RO2 := hide (show OffRow u2 B 35 8 (.slice (some ⟨g, o, none⟩) T.length cap) T1.length (T1.flatMap txC) by
            obtain ⟨y5, hy5⟩ : ∃ y5 : TxA, y5 = ⟨{ s with left := s.left - x.t.amt }, (T.getD i ta0).la, (T.getD i ta0).lc⟩ := ⟨_, rfl⟩
            have e1 := flat_set txC 8 txC_length ta0 y5 (.int .i64 (s.left - x.t.amt)) 5 (by decide) T i hi (by rw [hy5, ← HSM.out]; rfl)
            have e2 := flat_set txC 8 txC_length ta0 y6 (.bool (x.t.kind == 2)) 6 (by decide) (T.set i y5) i (by rw [List.length_set]; exact hi) (by
              have e3 : (T.set i y5).getD i ta0 = y5 := by simp [List.getD, hi]
              rw [e3, hy6, hy5, beq_dec]; rfl)
            rw [List.set_set] at e2
            have e4 := RO.out
            rw [HTL.out, hT1, ← e2, ← e1]
            exact e4)
          have LN2 := hide (show ∀ y ∈ T1, LnT u2 y.la y.t.L from fun y hy => by
            rw [hT1] at hy
            rcases List.mem_or_eq_of_mem_set hy with hy | rfl
            · exact LN.out y hy
            · rw [hy6]
              have := LN.out _ HMX.out
              rw [HSM.out] at this
              exact this)
          rw [← HTL.out] at RO2
          have HD2 := hide (show u2.heap[p]? = some (.cells #[.int .i64 keep, .int .i64 next, .slice (some ⟨g, o, none⟩) T1.length cap] 101 (0, 0)) by rw [HTL.out]; exact HD.out)
          have X2 := hide X.out
          have LX2 := hide LX.out
          have BW2 := hide BW.out
          have KT2 := hide KT.out
          have HQN := hide (show ∀ k, (Value.slice (some ⟨g, o, none⟩) T1.length cap).ownBlock = some k → k ≠ q from fun k hk => by
            simp only [Value.ownBlock, Option.some.injEq] at hk
            rw [← hk]; exact HQG.out)
          have hln1 : T1.length ≤ 512 := by have := HFW.out; have := HKP.out; have := HTL.out; omega
          clear hT1 hy6 HD RO LN LX BW KT X HG5 D6 Z6 HMX HMD HFT HOF HSM HKS HBT
          have x0 := cell_of_block X2.out 0
          have x1 := cell_of_block X2.out 1
          have x2 := cell_of_block X2.out 2
          have x3 := cell_of_block X2.out 3
          have x4 := cell_of_block X2.out 4
          have x5 := cell_of_block X2.out 5
          have x6 := cell_of_block X2.out 6
          have x7 := cell_of_block X2.out 7
          have HCP := hide (copied_any x (by omega) u2 LX2.out.lnIn)
          unfold CopiedT txV txC at HCP
          go_wp2_with fail
          refine HCP.out.mono ?_
          rintro e w5 ⟨a3, c3, rfl, hln, hb⟩
          have X := hide ((hb.block _ (heap_lt X2.out)).trans X2.out)
          have HD := hide ((hb.block _ (heap_lt HD2.out)).trans HD2.out)
          have RO := hide (RO2.out.below hb)
          have LN := hide (show ∀ y ∈ T1, LnT w5 y.la y.t.L from fun y hy => (LN2.out y hy).below hb)
          have L3 := hide hln
          have BW := hide (BW2.out.trans (hb.mono (Nat.le_trans HBS.out BW2.out.size)))
          have KT := hide (KT2.out.below hb)
          clear hb hln HCP X2 HD2 RO2 LN2 LX2 BW2 KT2 x0 x1 x2 x3 x4 x5 x6 x7
          have HXI := hide (tx_info ⟨x.t, a3, c3⟩)
          have HXA := hide (txC_all ⟨x.t, a3, c3⟩)
          unfold txC at HXI HXA
          go_upto_region 17 with (refine rw_store rfl 35 (.tmp 3) (.tmp 51) rfl q rfl #[.int .i64 x.t.num, .int .u8 x.t.kind, .int .i64 x.t.shift, .int .i64 x.t.ref, .int .i64 x.t.amt, .int .i64 x.t.left, .bool x.t.void, .slice a3 x.t.L.length c3] rfl _ X.out HXI.out rfl HXA.out ?_)
          have K' := hide (setRow_keeps (Ts := SaleTs) X.out (by decide) #[.int .i64 x.t.num, .int .u8 x.t.kind, .int .i64 x.t.shift, .int .i64 x.t.ref, .int .i64 x.t.amt, .int .i64 x.t.left, .bool x.t.void, .slice a3 x.t.L.length c3])
          have HD' := hide ((setRow_diff (cs := #[.int .i64 x.t.num, .int .u8 x.t.kind, .int .i64 x.t.shift, .int .i64 x.t.ref, .int .i64 x.t.amt, .int .i64 x.t.left, .bool x.t.void, .slice a3 x.t.L.length c3]) (fun e => HPQ.out e.symm)).trans HD.out)
          have X' := hide (setRow_same (cs := #[.int .i64 x.t.num, .int .u8 x.t.kind, .int .i64 x.t.shift, .int .i64 x.t.ref, .int .i64 x.t.amt, .int .i64 x.t.left, .bool x.t.void, .slice a3 x.t.L.length c3]) X.out)
          have RO' := hide (RO.out.keptB (w' := w5.setRow q #[.int .i64 x.t.num, .int .u8 x.t.kind, .int .i64 x.t.shift, .int .i64 x.t.ref, .int .i64 x.t.amt, .int .i64 x.t.left, .bool x.t.void, .slice a3 x.t.L.length c3]) fun k hk => setRow_diff (fun e => HQN.out k hk e.symm))
          have LN' := hide (show ∀ y ∈ T1, LnT (w5.setRow q #[.int .i64 x.t.num, .int .u8 x.t.kind, .int .i64 x.t.shift, .int .i64 x.t.ref, .int .i64 x.t.amt, .int .i64 x.t.left, .bool x.t.void, .slice a3 x.t.L.length c3]) y.la y.t.L from fun y hy => (LN.out y hy).keepsT K'.out (by decide))
          have L3' := hide (L3.out.keepsT K'.out (by decide))
          have BW' := hide (setRow_below BW.out HQB.out (Nat.le_trans HBS.out BW.out.size) #[.int .i64 x.t.num, .int .u8 x.t.kind, .int .i64 x.t.shift, .int .i64 x.t.ref, .int .i64 x.t.amt, .int .i64 x.t.left, .bool x.t.void, .slice a3 x.t.L.length c3])
          have KT' := hide (KT.out.add K'.out (OnlyL.of_only (setRow_only w5 q #[.int .i64 x.t.num, .int .u8 x.t.kind, .int .i64 x.t.shift, .int .i64 x.t.ref, .int .i64 x.t.amt, .int .i64 x.t.left, .bool x.t.void, .slice a3 x.t.L.length c3]) (qs := [q]) (by simp)) (fun r hr => .inr (by rw [List.mem_singleton.1 hr]; exact HQL.out)))
          clear HD X RO LN L3 BW KT K' HXI HXA
          generalize w5.setRow q #[.int .i64 x.t.num, .int .u8 x.t.kind, .int .i64 x.t.shift, .int .i64 x.t.ref, .int .i64 x.t.amt, .int .i64 x.t.left, .bool x.t.void, .slice a3 x.t.L.length c3] = w6 at *
          have HD := hide HD'.out
          have X := hide X'.out
          have RO := hide RO'.out
          have LN := hide LN'.out
          have L3 := hide L3'.out
          have BW := hide BW'.out
          have KT := hide KT'.out
          clear HD' X' RO' LN' L3' BW' KT'
          have e1 := cell_of_block HD.out 1
          have x0 := cell_of_block X.out 0
          have x1 := cell_of_block X.out 1
          have x2 := cell_of_block X.out 2
          have x3 := cell_of_block X.out 3
          have x4 := cell_of_block X.out 4
          have x5 := cell_of_block X.out 5
          have x6 := cell_of_block X.out 6
          have x7 := cell_of_block X.out 7
          have y0 := frozen_of_block X.out 0
          have y5 := frozen_of_block X.out 5
          have y6 := frozen_of_block X.out 6
          go_upto_region 18 with (fail)
          clear e1 x0 x1 x2 x3 x4 x5 x6 x7 y0 y5 y6
          have HD' := hide ((block_setCell_other (v := .int .i64 next) (fun e => HPQ.out e.symm) 0).trans HD.out)
          have X' := hide (show (w6.setCell ⟨q, 0, none⟩ (.int .i64 next)).heap[q]? = some (.cells #[.int .i64 next, .int .u8 x.t.kind, .int .i64 x.t.shift, .int .i64 x.t.ref, .int .i64 x.t.amt, .int .i64 x.t.left, .bool x.t.void, .slice a3 x.t.L.length c3] 35 (0, 0)) from block_setCell X.out 0 (.int .i64 next))
          have K' := hide (KeepsT.setCell (Ts := SaleTs) X.out (by decide) 0 (.int .i64 next))
          have RO' := hide (RO.out.keptB (w' := w6.setCell ⟨q, 0, none⟩ (.int .i64 next)) fun k hk => block_setCell_other (fun e => HQN.out k hk e.symm) 0 _)
          have LN' := hide (show ∀ y ∈ T1, LnT (w6.setCell ⟨q, 0, none⟩ (.int .i64 next)) y.la y.t.L from fun y hy => (LN.out y hy).keepsT K'.out (by decide))
          have L3' := hide (L3.out.keepsT K'.out (by decide))
          have BW' := hide (BW.out.setCell (p := ⟨q, 0, none⟩) HQB.out (.int .i64 next))
          have KT' := hide (KT.out.add K'.out (OnlyL.setCell (qs := [q]) (a := w6) (q := q) (by simp) 0 (.int .i64 next)) (fun r hr => .inr (by rw [List.mem_singleton.1 hr]; exact HQL.out)))
          clear HD X RO LN L3 BW KT K'
          generalize w6.setCell ⟨q, 0, none⟩ (.int .i64 next) = w7 at *
          have HD := hide HD'.out
          have X := hide X'.out
          have RO := hide RO'.out
          have LN := hide LN'.out
          have L3 := hide L3'.out
          have BW := hide BW'.out
          have KT := hide KT'.out
          clear HD' X' RO' LN' L3' BW' KT'
          have HD' := hide ((block_setCell_other (v := .int .i64 0) (fun e => HPQ.out e.symm) 5).trans HD.out)
          have X' := hide (show (w7.setCell ⟨q, 5, none⟩ (.int .i64 0)).heap[q]? = some (.cells #[.int .i64 next, .int .u8 x.t.kind, .int .i64 x.t.shift, .int .i64 x.t.ref, .int .i64 x.t.amt, .int .i64 0, .bool x.t.void, .slice a3 x.t.L.length c3] 35 (0, 0)) from block_setCell X.out 5 (.int .i64 0))
          have K' := hide (KeepsT.setCell (Ts := SaleTs) X.out (by decide) 5 (.int .i64 0))
          have RO' := hide (RO.out.keptB (w' := w7.setCell ⟨q, 5, none⟩ (.int .i64 0)) fun k hk => block_setCell_other (fun e => HQN.out k hk e.symm) 5 _)
          have LN' := hide (show ∀ y ∈ T1, LnT (w7.setCell ⟨q, 5, none⟩ (.int .i64 0)) y.la y.t.L from fun y hy => (LN.out y hy).keepsT K'.out (by decide))
          have L3' := hide (L3.out.keepsT K'.out (by decide))
          have BW' := hide (BW.out.setCell (p := ⟨q, 5, none⟩) HQB.out (.int .i64 0))
          have KT' := hide (KT.out.add K'.out (OnlyL.setCell (qs := [q]) (a := w7) (q := q) (by simp) 5 (.int .i64 0)) (fun r hr => .inr (by rw [List.mem_singleton.1 hr]; exact HQL.out)))
          clear HD X RO LN L3 BW KT K'
          generalize w7.setCell ⟨q, 5, none⟩ (.int .i64 0) = w8 at *
          have HD := hide HD'.out
          have X := hide X'.out
          have RO := hide RO'.out
          have LN := hide LN'.out
          have L3 := hide L3'.out
          have BW := hide BW'.out
          have KT := hide KT'.out
          clear HD' X' RO' LN' L3' BW' KT'
          have HD' := hide ((block_setCell_other (v := .bool false) (fun e => HPQ.out e.symm) 6).trans HD.out)
          have X' := hide (show (w8.setCell ⟨q, 6, none⟩ (.bool false)).heap[q]? = some (.cells #[.int .i64 next, .int .u8 x.t.kind, .int .i64 x.t.shift, .int .i64 x.t.ref, .int .i64 x.t.amt, .int .i64 0, .bool false, .slice a3 x.t.L.length c3] 35 (0, 0)) from block_setCell X.out 6 (.bool false))
          have K' := hide (KeepsT.setCell (Ts := SaleTs) X.out (by decide) 6 (.bool false))
          have RO' := hide (RO.out.keptB (w' := w8.setCell ⟨q, 6, none⟩ (.bool false)) fun k hk => block_setCell_other (fun e => HQN.out k hk e.symm) 6 _)
          have LN' := hide (show ∀ y ∈ T1, LnT (w8.setCell ⟨q, 6, none⟩ (.bool false)) y.la y.t.L from fun y hy => (LN.out y hy).keepsT K'.out (by decide))
          have L3' := hide (L3.out.keepsT K'.out (by decide))
          have BW' := hide (BW.out.setCell (p := ⟨q, 6, none⟩) HQB.out (.bool false))
          have KT' := hide (KT.out.add K'.out (OnlyL.setCell (qs := [q]) (a := w8) (q := q) (by simp) 6 (.bool false)) (fun r hr => .inr (by rw [List.mem_singleton.1 hr]; exact HQL.out)))
          clear HD X RO LN L3 BW KT K'
          generalize w8.setCell ⟨q, 6, none⟩ (.bool false) = w9 at *
          have HD := hide HD'.out
          have X := hide X'.out
          have RO := hide RO'.out
          have LN := hide LN'.out
          have L3 := hide L3'.out
          have BW := hide BW'.out
          have KT := hide KT'.out
          clear HD' X' RO' LN' L3' BW' KT'
          have x1 := cell_of_block X.out 1
          have x4 := cell_of_block X.out 4
          have y5 := frozen_of_block X.out 5
          have x5 := cell_of_block X.out 5
          by_cases hk1 : x.t.kind = 1
          · have HFIN := hide (fun g3 o3 c4 W a3 c3 h4 h5 h6 h7 h8 h9 => HFN.out x.t.amt T1 HE.out HT1.out (if_pos hk1).symm g3 o3 c4 W a3 c3 h4 h5 h6 h7 h8 h9)
            go_upto_region 20 with (fail)
            clear x1 x4 y5 x5 hk1
            have HD' := hide ((block_setCell_other (v := .int .i64 x.t.amt) (fun e => HPQ.out e.symm) 5).trans HD.out)
            have X' := hide (show (w9.setCell ⟨q, 5, none⟩ (.int .i64 x.t.amt)).heap[q]? = some (.cells #[.int .i64 next, .int .u8 x.t.kind, .int .i64 x.t.shift, .int .i64 x.t.ref, .int .i64 x.t.amt, .int .i64 x.t.amt, .bool false, .slice a3 x.t.L.length c3] 35 (0, 0)) from block_setCell X.out 5 (.int .i64 x.t.amt))
            have K' := hide (KeepsT.setCell (Ts := SaleTs) X.out (by decide) 5 (.int .i64 x.t.amt))
            have RO' := hide (RO.out.keptB (w' := w9.setCell ⟨q, 5, none⟩ (.int .i64 x.t.amt)) fun k hk => block_setCell_other (fun e => HQN.out k hk e.symm) 5 _)
            have LN' := hide (show ∀ y ∈ T1, LnT (w9.setCell ⟨q, 5, none⟩ (.int .i64 x.t.amt)) y.la y.t.L from fun y hy => (LN.out y hy).keepsT K'.out (by decide))
            have L3' := hide (L3.out.keepsT K'.out (by decide))
            have BW' := hide (BW.out.setCell (p := ⟨q, 5, none⟩) HQB.out (.int .i64 x.t.amt))
            have KT' := hide (KT.out.add K'.out (OnlyL.setCell (qs := [q]) (a := w9) (q := q) (by simp) 5 (.int .i64 x.t.amt)) (fun r hr => .inr (by rw [List.mem_singleton.1 hr]; exact HQL.out)))
            clear HD X RO LN L3 BW KT K'
            generalize w9.setCell ⟨q, 5, none⟩ (.int .i64 x.t.amt) = w10 at *
            have HD := hide HD'.out
            have X := hide X'.out
            have RO := hide RO'.out
            have LN := hide LN'.out
            have L3 := hide L3'.out
            have BW := hide BW'.out
            have KT := hide KT'.out
            clear HD' X' RO' LN' L3' BW' KT'
            have c1 := cell_of_block HD.out 1
            have d1 := frozen_of_block HD.out 1
            have hnw : wrap64 (next + 1) = next + 1 := by have := HNX.out; unfold wrap64; omega
            go_upto_region 21 with (fail)
            clear c1 d1 hnw
            have HD' := hide (show (w10.setCell ⟨p, 1, none⟩ (.int .i64 (next + 1))).heap[p]? = some (.cells #[.int .i64 keep, .int .i64 (next + 1), .slice (some ⟨g, o, none⟩) T1.length cap] 101 (0, 0)) from block_setCell HD.out 1 _)
            have X' := hide ((block_setCell_other (v := .int .i64 (next + 1)) HPQ.out 1).trans X.out)
            have K' := hide (KeepsT.setCell (Ts := [101]) HD.out (by decide) 1 (.int .i64 (next + 1)))
            have RO' := hide (RO.out.keepsT K'.out (by decide))
            have LN' := hide (show ∀ y ∈ T1, LnT (w10.setCell ⟨p, 1, none⟩ (.int .i64 (next + 1))) y.la y.t.L from fun y hy => (LN.out y hy).keepsT K'.out (by decide))
            have L3' := hide (L3.out.keepsT K'.out (by decide))
            have BW' := hide (BW.out.setCell (p := ⟨p, 1, none⟩) HLOW.out (.int .i64 (next + 1)))
            have KT' := hide (KT.out.add (K'.out.mono (by decide)) (OnlyL.setCell (qs := [p]) (a := w10) (q := p) (by simp) 1 (.int .i64 (next + 1))) (fun r hr => .inl (by rw [List.mem_singleton.1 hr]; exact HQP.out)))
            clear HD X RO LN L3 BW KT K'
            generalize w10.setCell ⟨p, 1, none⟩ (.int .i64 (next + 1)) = wt at *
            have HD := hide HD'.out
            have X := hide X'.out
            have RO := hide RO'.out
            have LN := hide LN'.out
            have L3 := hide L3'.out
            have BW := hide BW'.out
            have KT := hide KT'.out
            clear HD' X' RO' LN' L3' BW' KT'
            refine wp_region_held_drew (S := (fun W => (∃ v1, W.heap[p]? = some (.cells #[.int .i64 keep, .int .i64 (next + 1), v1] 101 (0, 0))) ∧ W.heap[q]? = some (.cells #[.int .i64 next, .int .u8 x.t.kind, .int .i64 x.t.shift, .int .i64 x.t.ref, .int .i64 x.t.amt, .int .i64 x.t.amt, .bool false, .slice a3 x.t.L.length c3] 35 (0, 0)))) (by kernel_rfl) (⟨⟨_, HD.out⟩, X.out⟩) (fun hHeld => ?_)
            have HDD := hide (show wt.drew.heap[p]? = some (.cells #[.int .i64 keep, .int .i64 (next + 1), .slice (some ⟨g, o, none⟩) T1.length cap] 101 (0, 0)) from HD.out)
            have XD := hide (show wt.drew.heap[q]? = some (.cells #[.int .i64 next, .int .u8 x.t.kind, .int .i64 x.t.shift, .int .i64 x.t.ref, .int .i64 x.t.amt, .int .i64 x.t.amt, .bool false, .slice a3 x.t.L.length c3] 35 (0, 0)) from X.out)
            have ROD := hide RO.out.drew
            have LND := hide (show ∀ y ∈ T1, LnT wt.drew y.la y.t.L from fun y hy => LN.out y hy)
            have L3D := hide (show LnT wt.drew a3 x.t.L from L3.out)
            have BWD := hide BW.out.drew
            have KTD := hide KT.out.drew
            generalize wt.drew = v0 at *
            have al := (Below.refl v0.heap.size v0).alloc (Nat.le_refl _) (.cells #[.int .i64 next, .int .u8 x.t.kind, .int .i64 x.t.shift, .int .i64 x.t.ref, .int .i64 x.t.amt, .int .i64 x.t.amt, .bool false, .slice a3 x.t.L.length c3] 35)
            have XB := hide (heap_new v0 (.cells #[.int .i64 next, .int .u8 x.t.kind, .int .i64 x.t.shift, .int .i64 x.t.ref, .int .i64 x.t.amt, .int .i64 x.t.amt, .bool false, .slice a3 x.t.L.length c3] 35))
            have HDA := hide ((al.block _ (heap_lt HDD.out)).trans HDD.out)
            have XA := hide ((al.block _ (heap_lt XD.out)).trans XD.out)
            have ROA := hide (ROD.out.below al)
            have LNA := hide (show ∀ y ∈ T1, LnT (v0.alloc (.cells #[.int .i64 next, .int .u8 x.t.kind, .int .i64 x.t.shift, .int .i64 x.t.ref, .int .i64 x.t.amt, .int .i64 x.t.amt, .bool false, .slice a3 x.t.L.length c3] 35)) y.la y.t.L from fun y hy => (LND.out y hy).below al)
            have L3A := hide (L3D.out.below al)
            have BWA := hide (BWD.out.trans (al.mono (Nat.le_trans HBS.out BWD.out.size)))
            have KTA := hide (KTD.out.below al)
            have hwa : B ≤ (v0.alloc (.cells #[.int .i64 next, .int .u8 x.t.kind, .int .i64 x.t.shift, .int .i64 x.t.ref, .int .i64 x.t.amt, .int .i64 x.t.amt, .bool false, .slice a3 x.t.L.length c3] 35)).heap.size := Nat.le_trans HBS.out BWA.out.size
            have g2 := cell_of_block HDD.out 2
            have g2A := cell_of_block HDA.out 2
            have h8 : (T1.flatMap txC).length = T1.length * 8 := flat_length txC 8 txC_length T1
            clear al HD X RO LN L3 BW KT HDD XD ROD LND L3D BWD KTD
            refine wpAnyH_take (i := 0) (oi := { dst := some 72, op := Op.move (Operand.tmp 0), type := 49, pos := "sale.go:141", after := #[], guard := none }) (v := ?_) rfl (by kernel_rfl) (by kernel_rfl) (by kernel_rfl) (fun _ _ _ h => h) (Or.inl ⟨by kernel_rfl, ?_⟩) hHeld ?_
            rotate_left
            · (intro w hSw; (try dsimp only at hSw); obtain ⟨⟨v1, hp⟩, hx2⟩ := hSw; have e0 := cell_of_block hp 0; have x0 := cell_of_block hx2 0; have x1 := cell_of_block hx2 1; have x2 := cell_of_block hx2 2; have x3 := cell_of_block hx2 3; have x4 := cell_of_block hx2 4; have x5 := cell_of_block hx2 5; have x6 := cell_of_block hx2 6; have x7 := cell_of_block hx2 7; go_simp); try with_reducible rfl
            try simp only [Act.put, List.setIfInBounds_toArray, List.set_cons_zero, List.set_cons_succ]
            refine wpAnyH_take (i := 1) (oi := { dst := some 73, op := Op.move (Operand.tmp 0), type := 49, pos := "sale.go:141", after := #[], guard := none }) (v := ?_) rfl (by kernel_rfl) (by kernel_rfl) (by kernel_rfl) (fun _ _ _ h => h) (Or.inl ⟨by kernel_rfl, ?_⟩) hHeld ?_
            rotate_left
            · (intro w hSw; (try dsimp only at hSw); obtain ⟨⟨v1, hp⟩, hx2⟩ := hSw; have e0 := cell_of_block hp 0; have x0 := cell_of_block hx2 0; have x1 := cell_of_block hx2 1; have x2 := cell_of_block hx2 2; have x3 := cell_of_block hx2 3; have x4 := cell_of_block hx2 4; have x5 := cell_of_block hx2 5; have x6 := cell_of_block hx2 6; have x7 := cell_of_block hx2 7; go_simp); try with_reducible rfl
            try simp only [Act.put, List.setIfInBounds_toArray, List.set_cons_zero, List.set_cons_succ]
            refine wpAnyH_take (i := 2) (oi := { dst := some 74, op := Op.nilCheck (Operand.tmp 73), type := 0, pos := "sale.go:141", after := #[{ on := 1, ground := Ground.data }], guard := none }) (v := ?_) rfl (by kernel_rfl) (by kernel_rfl) (by kernel_rfl) (fun _ _ _ h => h) (Or.inl ⟨by kernel_rfl, ?_⟩) hHeld ?_
            rotate_left
            · (intro w hSw; (try dsimp only at hSw); obtain ⟨⟨v1, hp⟩, hx2⟩ := hSw; have e0 := cell_of_block hp 0; have x0 := cell_of_block hx2 0; have x1 := cell_of_block hx2 1; have x2 := cell_of_block hx2 2; have x3 := cell_of_block hx2 3; have x4 := cell_of_block hx2 4; have x5 := cell_of_block hx2 5; have x6 := cell_of_block hx2 6; have x7 := cell_of_block hx2 7; go_simp); try with_reducible rfl
            try simp only [Act.put, List.setIfInBounds_toArray, List.set_cons_zero, List.set_cons_succ]
            refine wpAnyH_take (i := 3) (oi := { dst := some 75, op := Op.fieldAddr 101 (Operand.tmp 74) 2, type := 0, pos := "sale.go:141", after := #[{ on := 2, ground := Ground.data }], guard := none }) (v := ?_) rfl (by kernel_rfl) (by kernel_rfl) (by kernel_rfl) (fun _ _ _ h => h) (Or.inl ⟨by kernel_rfl, ?_⟩) hHeld ?_
            rotate_left
            · (intro w hSw; (try dsimp only at hSw); obtain ⟨⟨v1, hp⟩, hx2⟩ := hSw; have e0 := cell_of_block hp 0; have x0 := cell_of_block hx2 0; have x1 := cell_of_block hx2 1; have x2 := cell_of_block hx2 2; have x3 := cell_of_block hx2 3; have x4 := cell_of_block hx2 4; have x5 := cell_of_block hx2 5; have x6 := cell_of_block hx2 6; have x7 := cell_of_block hx2 7; go_simp); try with_reducible rfl
            try simp only [Act.put, List.setIfInBounds_toArray, List.set_cons_zero, List.set_cons_succ]
            refine wpAnyH_take (i := 5) (oi := { dst := some 77, op := Op.load 35 (Operand.tmp 3), type := 35, pos := "sale.go:141", after := #[], guard := none }) (v := ?_) rfl (by kernel_rfl) (by kernel_rfl) (by kernel_rfl) (fun _ _ _ h => h) (Or.inl ⟨by kernel_rfl, ?_⟩) hHeld ?_
            rotate_left
            · (intro w hSw; (try dsimp only at hSw); obtain ⟨⟨v1, hp⟩, hx2⟩ := hSw; have e0 := cell_of_block hp 0; have x0 := cell_of_block hx2 0; have x1 := cell_of_block hx2 1; have x2 := cell_of_block hx2 2; have x3 := cell_of_block hx2 3; have x4 := cell_of_block hx2 4; have x5 := cell_of_block hx2 5; have x6 := cell_of_block hx2 6; have x7 := cell_of_block hx2 7; go_simp); try with_reducible rfl
            try simp only [Act.put, List.setIfInBounds_toArray, List.set_cons_zero, List.set_cons_succ]
            refine wpAnyH_take (i := 8) (oi := { dst := some 80, op := Op.move (Operand.tmp 0), type := 49, pos := "sale.go:141", after := #[], guard := none }) (v := ?_) rfl (by kernel_rfl) (by kernel_rfl) (by kernel_rfl) (fun _ _ _ h => h) (Or.inl ⟨by kernel_rfl, ?_⟩) hHeld ?_
            rotate_left
            · (intro w hSw; (try dsimp only at hSw); obtain ⟨⟨v1, hp⟩, hx2⟩ := hSw; have e0 := cell_of_block hp 0; have x0 := cell_of_block hx2 0; have x1 := cell_of_block hx2 1; have x2 := cell_of_block hx2 2; have x3 := cell_of_block hx2 3; have x4 := cell_of_block hx2 4; have x5 := cell_of_block hx2 5; have x6 := cell_of_block hx2 6; have x7 := cell_of_block hx2 7; go_simp); try with_reducible rfl
            try simp only [Act.put, List.setIfInBounds_toArray, List.set_cons_zero, List.set_cons_succ]
            refine wpAnyH_take (i := 9) (oi := { dst := some 81, op := Op.nilCheck (Operand.tmp 80), type := 0, pos := "sale.go:141", after := #[{ on := 8, ground := Ground.data }], guard := none }) (v := ?_) rfl (by kernel_rfl) (by kernel_rfl) (by kernel_rfl) (fun _ _ _ h => h) (Or.inl ⟨by kernel_rfl, ?_⟩) hHeld ?_
            rotate_left
            · (intro w hSw; (try dsimp only at hSw); obtain ⟨⟨v1, hp⟩, hx2⟩ := hSw; have e0 := cell_of_block hp 0; have x0 := cell_of_block hx2 0; have x1 := cell_of_block hx2 1; have x2 := cell_of_block hx2 2; have x3 := cell_of_block hx2 3; have x4 := cell_of_block hx2 4; have x5 := cell_of_block hx2 5; have x6 := cell_of_block hx2 6; have x7 := cell_of_block hx2 7; go_simp); try with_reducible rfl
            try simp only [Act.put, List.setIfInBounds_toArray, List.set_cons_zero, List.set_cons_succ]
            refine wpAnyH_take (i := 10) (oi := { dst := some 82, op := Op.fieldAddr 101 (Operand.tmp 81) 0, type := 0, pos := "sale.go:141", after := #[{ on := 9, ground := Ground.data }], guard := none }) (v := ?_) rfl (by kernel_rfl) (by kernel_rfl) (by kernel_rfl) (fun _ _ _ h => h) (Or.inl ⟨by kernel_rfl, ?_⟩) hHeld ?_
            rotate_left
            · (intro w hSw; (try dsimp only at hSw); obtain ⟨⟨v1, hp⟩, hx2⟩ := hSw; have e0 := cell_of_block hp 0; have x0 := cell_of_block hx2 0; have x1 := cell_of_block hx2 1; have x2 := cell_of_block hx2 2; have x3 := cell_of_block hx2 3; have x4 := cell_of_block hx2 4; have x5 := cell_of_block hx2 5; have x6 := cell_of_block hx2 6; have x7 := cell_of_block hx2 7; go_simp); try with_reducible rfl
            try simp only [Act.put, List.setIfInBounds_toArray, List.set_cons_zero, List.set_cons_succ]
            refine wpAnyH_take (i := 11) (oi := { dst := some 83, op := Op.load 3 (Operand.tmp 82), type := 3, pos := "sale.go:141", after := #[{ on := 10, ground := Ground.data }], guard := none }) (v := ?_) rfl (by kernel_rfl) (by kernel_rfl) (by kernel_rfl) (fun _ _ _ h => h) (Or.inl ⟨by kernel_rfl, ?_⟩) hHeld ?_
            rotate_left
            · (intro w hSw; (try dsimp only at hSw); obtain ⟨⟨v1, hp⟩, hx2⟩ := hSw; have e0 := cell_of_block hp 0; have x0 := cell_of_block hx2 0; have x1 := cell_of_block hx2 1; have x2 := cell_of_block hx2 2; have x3 := cell_of_block hx2 3; have x4 := cell_of_block hx2 4; have x5 := cell_of_block hx2 5; have x6 := cell_of_block hx2 6; have x7 := cell_of_block hx2 7; go_simp); try with_reducible rfl
            try simp only [Act.put, List.setIfInBounds_toArray, List.set_cons_zero, List.set_cons_succ]
            refine wpAnyH_ready (rs := [4, 6]) (by kernel_rfl) (by simp) (AllReadyH.cons (o := { dst := some 76, op := Op.load 67 (Operand.tmp 75), type := 67, pos := "sale.go:141", after := #[{ on := 3, ground := Ground.data }], guard := none }) rfl (fun K hK => ?_) (AllReadyH.cons (o := { dst := some 78, op := Op.buildSlice 67 1 #[(0, Operand.tmp 77)], type := 67, pos := "sale.go:141", after := #[{ on := 5, ground := Ground.data }], guard := none }) rfl (fun K hK => ?_) AllReadyH.nil))
            · have hOld := hide hHeld
              clear hHeld
              go_simp
              skip
              (try go_wp2_with fail)
              refine hK.out _ _ (hOld.out) (fun hHeld => ?_)
              clear hK K hOld
              try simp only [Act.put, List.setIfInBounds_toArray, List.set_cons_zero, List.set_cons_succ]
              refine wpAnyH_ready (rs := [6]) (by kernel_rfl) (by simp) (AllReadyH.cons (o := { dst := some 78, op := Op.buildSlice 67 1 #[(0, Operand.tmp 77)], type := 67, pos := "sale.go:141", after := #[{ on := 5, ground := Ground.data }], guard := none }) rfl (fun K hK => ?_) AllReadyH.nil)
              have hOld := hide hHeld
              clear hHeld
              go_simp
              skip
              (try go_wp2_with fail)
              refine hK.out _ _ (⟨⟨_, HDA.out⟩, XA.out⟩) (fun hHeld => ?_)
              clear hK K hOld
              try simp only [Act.put, List.setIfInBounds_toArray, List.set_cons_zero, List.set_cons_succ]
              refine wpAnyH_ready (rs := [7]) (by kernel_rfl) (by simp) (AllReadyH.cons (o := { dst := some 79, op := Op.call { callee := Callee.builtin Builtin.append, args := #[Operand.tmp 76, Operand.tmp 78], argTypes := #[67, 67] }, type := 67, pos := "sale.go:141", after := #[{ on := 4, ground := Ground.data }, { on := 6, ground := Ground.data }], guard := none }) rfl (fun K hK => ?_) AllReadyH.nil)
              have hOld := hide hHeld
              clear hHeld
              clear g2 g2A
              refine wp_append_off _ (.tmp 76) (.tmp 78) 67 rfl B 35 i0 (.agg #[.int .i64 0, .int .u8 0, .int .i64 0, .int .i64 0, .int .i64 0, .int .i64 0, .bool false, .slice none 0 0]) 8 80 Try.underlying67 HI.out HZ0.out HZ1.out HZ2.out rfl (by decide) (.slice (some ⟨g, o, none⟩) T1.length cap) T1.length (T1.flatMap txC) rfl ROA.out ⟨v0.heap.size, 0, none⟩ 1 1 (by decide) [.int .i64 next, .int .u8 x.t.kind, .int .i64 x.t.shift, .int .i64 x.t.ref, .int .i64 x.t.amt, .int .i64 x.t.amt, .bool false, .slice a3 x.t.L.length c3] rfl rfl (cells_new XB.out) (by simp [Value.oneCell']) (by unfold maxLen; omega) (by omega) hwa ?_
              intro g3 o3 c4 w3 ho hgr hnil
              have RO3 := hide ho
              have KT3 := hide (KTA.out.add (KeepsT.offGrown ROA.out (by decide) hgr) (onlyL_of_grown hgr) (fun r hr => .inl (HQV.out r (Option.mem_toList.1 hr))))
              have HD3 := hide ((hgr.block p (heap_lt HDA.out) (fun e => by obtain ⟨cc, fz, hc⟩ := ROA.out.kind p e.symm; rw [HDA.out] at hc; simp only [Option.some.injEq, Obj.cells.injEq] at hc; exact absurd hc.2.1 (by decide))).trans HDA.out)
              have X3 := hide ((hgr.block q (heap_lt XA.out) (fun e => HQN.out q e.symm rfl)).trans XA.out)
              have LN3 := hide (show ∀ y ∈ T1, LnT w3 y.la y.t.L from fun y hy => (LNA.out y hy).keepsT (KeepsT.offGrown ROA.out (Ts := SaleTs) (by decide) hgr) (by decide))
              have L33 := hide (L3A.out.keepsT (KeepsT.offGrown ROA.out (Ts := SaleTs) (by decide) hgr) (by decide))
              have BW3 := hide (BWA.out.grown hgr (Nat.le_trans HBS.out BWA.out.size) (fun jj hj => (ROA.out.lt jj hj).1))
              clear ho hgr hnil HDA XA ROA LNA L3A BWA KTA hwa
              refine hK.out _ _ (⟨⟨_, HD3.out⟩, X3.out⟩) (fun hHeld => ?_)
              clear hK K hOld
              try simp only [Act.put, List.setIfInBounds_toArray, List.set_cons_zero, List.set_cons_succ]
              refine wpAnyH_ready (rs := [12]) (by kernel_rfl) (by simp) (AllReadyH.cons (o := { dst := some 84, op := Op.call { callee := Callee.value (Operand.func 45), args := #[Operand.tmp 79, Operand.tmp 83], argTypes := #[67, 3] }, type := 67, pos := "sale.go:141", after := #[{ on := 7, ground := Ground.data }, { on := 11, ground := Ground.data }, { on := 7, ground := Ground.chain }], guard := none }) rfl (fun K hK => ?_) AllReadyH.nil)
              have hOld := hide hHeld
              clear hHeld
              go_simp
              refine (lastsl_any g3 o3 (T1.length + 1) c4 keep HKP.out (by omega) (OffRow.cap RO3.out) (OffRow.capMax RO3.out) _ rfl w3).mono ?_
              rintro e w4 ⟨rfl, rfl⟩
              have d2 := cell_of_block HD3.out 2
              have z2 := frozen_of_block HD3.out 2
              (try go_wp2_with fail)
              refine hK.out _ _ (⟨⟨_, HD3.out⟩, X3.out⟩) (fun hHeld => ?_)
              clear hK K hOld
              try simp only [Act.put, List.setIfInBounds_toArray, List.set_cons_zero, List.set_cons_succ]
              refine wpAnyH_take (i := 13) (oi := { dst := some 85, op := Op.nilCheck (Operand.tmp 72), type := 0, pos := "sale.go:141", after := #[{ on := 0, ground := Ground.data }, { on := 0, ground := Ground.phase }, { on := 1, ground := Ground.phase }, { on := 2, ground := Ground.phase }, { on := 3, ground := Ground.phase }, { on := 4, ground := Ground.phase }, { on := 5, ground := Ground.phase }, { on := 6, ground := Ground.phase }, { on := 7, ground := Ground.phase }, { on := 8, ground := Ground.phase }, { on := 9, ground := Ground.phase }, { on := 10, ground := Ground.phase }, { on := 11, ground := Ground.phase }, { on := 12, ground := Ground.phase }], guard := none }) (v := ?_) rfl (by kernel_rfl) (by kernel_rfl) (by kernel_rfl) (fun _ _ _ h => h) (Or.inl ⟨by kernel_rfl, ?_⟩) hHeld ?_
              rotate_left
              · (intro w hSw; (try dsimp only at hSw); obtain ⟨⟨v1, hp⟩, hx2⟩ := hSw; have e0 := cell_of_block hp 0; have x0 := cell_of_block hx2 0; have x1 := cell_of_block hx2 1; have x2 := cell_of_block hx2 2; have x3 := cell_of_block hx2 3; have x4 := cell_of_block hx2 4; have x5 := cell_of_block hx2 5; have x6 := cell_of_block hx2 6; have x7 := cell_of_block hx2 7; go_simp); try with_reducible rfl
              try simp only [Act.put, List.setIfInBounds_toArray, List.set_cons_zero, List.set_cons_succ]
              refine wpAnyH_take (i := 14) (oi := { dst := some 86, op := Op.fieldAddr 101 (Operand.tmp 85) 2, type := 0, pos := "sale.go:141", after := #[{ on := 13, ground := Ground.data }, { on := 0, ground := Ground.phase }, { on := 1, ground := Ground.phase }, { on := 2, ground := Ground.phase }, { on := 3, ground := Ground.phase }, { on := 4, ground := Ground.phase }, { on := 5, ground := Ground.phase }, { on := 6, ground := Ground.phase }, { on := 7, ground := Ground.phase }, { on := 8, ground := Ground.phase }, { on := 9, ground := Ground.phase }, { on := 10, ground := Ground.phase }, { on := 11, ground := Ground.phase }, { on := 12, ground := Ground.phase }], guard := none }) (v := ?_) rfl (by kernel_rfl) (by kernel_rfl) (by kernel_rfl) (fun _ _ _ h => h) (Or.inl ⟨by kernel_rfl, ?_⟩) hHeld ?_
              rotate_left
              · (intro w hSw; (try dsimp only at hSw); obtain ⟨⟨v1, hp⟩, hx2⟩ := hSw; have e0 := cell_of_block hp 0; have x0 := cell_of_block hx2 0; have x1 := cell_of_block hx2 1; have x2 := cell_of_block hx2 2; have x3 := cell_of_block hx2 3; have x4 := cell_of_block hx2 4; have x5 := cell_of_block hx2 5; have x6 := cell_of_block hx2 6; have x7 := cell_of_block hx2 7; go_simp); try with_reducible rfl
              try simp only [Act.put, List.setIfInBounds_toArray, List.set_cons_zero, List.set_cons_succ]
              refine wpAnyH_ready (rs := [15]) (by kernel_rfl) (by simp) (AllReadyH.cons (o := { dst := none, op := Op.store 67 (Operand.tmp 86) (Operand.tmp 84), type := 0, pos := "sale.go:141", after := #[{ on := 14, ground := Ground.data }, { on := 12, ground := Ground.data }, { on := 12, ground := Ground.chain }, { on := 0, ground := Ground.phase }, { on := 1, ground := Ground.phase }, { on := 2, ground := Ground.phase }, { on := 3, ground := Ground.phase }, { on := 4, ground := Ground.phase }, { on := 5, ground := Ground.phase }, { on := 6, ground := Ground.phase }, { on := 7, ground := Ground.phase }, { on := 8, ground := Ground.phase }, { on := 9, ground := Ground.phase }, { on := 10, ground := Ground.phase }, { on := 11, ground := Ground.phase }, { on := 12, ground := Ground.phase }], guard := none }) rfl (fun K hK => ?_) AllReadyH.nil)
              have hOld := hide hHeld
              clear hHeld
              go_simp
              skip
              (try go_wp2_with fail)
              refine hK.out _ _ (⟨⟨_, block_setCell HD3.out 2 _⟩, (block_setCell_other HPQ.out 2 _).trans X3.out⟩) (fun hHeld => ?_)
              clear hK K hOld
              try simp only [Act.put, List.setIfInBounds_toArray, List.set_cons_zero, List.set_cons_succ]
              refine wpAnyH_done (by kernel_rfl) ?_ _
              clear hHeld
              have HD4 := hide (block_setCell HD3.out 2 (.slice (some ⟨g3, o3 + (T1.length + 1 - keep.toNat) * 8, none⟩) (T1.length + 1 - (T1.length + 1 - keep.toNat)) (c4 - (T1.length + 1 - keep.toNat))))
              have X4 := hide ((block_setCell_other (v := .slice (some ⟨g3, o3 + (T1.length + 1 - keep.toNat) * 8, none⟩) (T1.length + 1 - (T1.length + 1 - keep.toNat)) (c4 - (T1.length + 1 - keep.toNat))) HPQ.out 2).trans X3.out)
              have K4 := hide (KeepsT.setCell (Ts := [101]) HD3.out (by decide) 2 (.slice (some ⟨g3, o3 + (T1.length + 1 - keep.toNat) * 8, none⟩) (T1.length + 1 - (T1.length + 1 - keep.toNat)) (c4 - (T1.length + 1 - keep.toNat))))
              have O4 := hide (OnlyL.setCell (qs := [p]) (a := w3) (q := p) (by simp) 2 (.slice (some ⟨g3, o3 + (T1.length + 1 - keep.toNat) * 8, none⟩) (T1.length + 1 - (T1.length + 1 - keep.toNat)) (c4 - (T1.length + 1 - keep.toNat))))
              have B4 := hide (BW3.out.setCell (p := ⟨p, 2, none⟩) HLOW.out (.slice (some ⟨g3, o3 + (T1.length + 1 - keep.toNat) * 8, none⟩) (T1.length + 1 - (T1.length + 1 - keep.toNat)) (c4 - (T1.length + 1 - keep.toNat))))
              generalize w3.setCell ⟨p, 2, none⟩ (.slice (some ⟨g3, o3 + (T1.length + 1 - keep.toNat) * 8, none⟩) (T1.length + 1 - (T1.length + 1 - keep.toNat)) (c4 - (T1.length + 1 - keep.toNat))) = w4 at *
              have RO4 := hide ((RO3.out.drop (T1.length + 1 - keep.toNat) (by omega)).keepsT K4.out (by decide))
              have LN4 := hide (show ∀ y ∈ T1, LnT w4 y.la y.t.L from fun y hy => (LN3.out y hy).keepsT K4.out (by decide))
              have L34 := hide (L33.out.keepsT K4.out (by decide))
              have KT4 := hide (KT3.out.add (K4.out.mono (by decide)) O4.out (fun r hr => .inl (by rw [List.mem_singleton.1 hr]; exact HQP.out)))
              clear HD3 X3 K4 O4 RO3 LN3 L33 BW3 KT3
              have e0 := cell_of_block X4.out 0
              go_wp2_with fail
              go_ret2
              exact HFIN.out _ _ _ _ a3 c3 HD4.out RO4.out LN4.out L34.out B4.out KT4.out
              
            · have hOld := hide hHeld
              clear hHeld
              go_simp
              skip
              (try go_wp2_with fail)
              refine hK.out _ _ (⟨⟨_, HDA.out⟩, XA.out⟩) (fun hHeld => ?_)
              clear hK K hOld
              try simp only [Act.put, List.setIfInBounds_toArray, List.set_cons_zero, List.set_cons_succ]
              refine wpAnyH_ready (rs := [4]) (by kernel_rfl) (by simp) (AllReadyH.cons (o := { dst := some 76, op := Op.load 67 (Operand.tmp 75), type := 67, pos := "sale.go:141", after := #[{ on := 3, ground := Ground.data }], guard := none }) rfl (fun K hK => ?_) AllReadyH.nil)
              have hOld := hide hHeld
              clear hHeld
              go_simp
              skip
              (try go_wp2_with fail)
              refine hK.out _ _ (hOld.out) (fun hHeld => ?_)
              clear hK K hOld
              try simp only [Act.put, List.setIfInBounds_toArray, List.set_cons_zero, List.set_cons_succ]
              refine wpAnyH_ready (rs := [7]) (by kernel_rfl) (by simp) (AllReadyH.cons (o := { dst := some 79, op := Op.call { callee := Callee.builtin Builtin.append, args := #[Operand.tmp 76, Operand.tmp 78], argTypes := #[67, 67] }, type := 67, pos := "sale.go:141", after := #[{ on := 4, ground := Ground.data }, { on := 6, ground := Ground.data }], guard := none }) rfl (fun K hK => ?_) AllReadyH.nil)
              have hOld := hide hHeld
              clear hHeld
              clear g2 g2A
              refine wp_append_off _ (.tmp 76) (.tmp 78) 67 rfl B 35 i0 (.agg #[.int .i64 0, .int .u8 0, .int .i64 0, .int .i64 0, .int .i64 0, .int .i64 0, .bool false, .slice none 0 0]) 8 80 Try.underlying67 HI.out HZ0.out HZ1.out HZ2.out rfl (by decide) (.slice (some ⟨g, o, none⟩) T1.length cap) T1.length (T1.flatMap txC) rfl ROA.out ⟨v0.heap.size, 0, none⟩ 1 1 (by decide) [.int .i64 next, .int .u8 x.t.kind, .int .i64 x.t.shift, .int .i64 x.t.ref, .int .i64 x.t.amt, .int .i64 x.t.amt, .bool false, .slice a3 x.t.L.length c3] rfl rfl (cells_new XB.out) (by simp [Value.oneCell']) (by unfold maxLen; omega) (by omega) hwa ?_
              intro g3 o3 c4 w3 ho hgr hnil
              have RO3 := hide ho
              have KT3 := hide (KTA.out.add (KeepsT.offGrown ROA.out (by decide) hgr) (onlyL_of_grown hgr) (fun r hr => .inl (HQV.out r (Option.mem_toList.1 hr))))
              have HD3 := hide ((hgr.block p (heap_lt HDA.out) (fun e => by obtain ⟨cc, fz, hc⟩ := ROA.out.kind p e.symm; rw [HDA.out] at hc; simp only [Option.some.injEq, Obj.cells.injEq] at hc; exact absurd hc.2.1 (by decide))).trans HDA.out)
              have X3 := hide ((hgr.block q (heap_lt XA.out) (fun e => HQN.out q e.symm rfl)).trans XA.out)
              have LN3 := hide (show ∀ y ∈ T1, LnT w3 y.la y.t.L from fun y hy => (LNA.out y hy).keepsT (KeepsT.offGrown ROA.out (Ts := SaleTs) (by decide) hgr) (by decide))
              have L33 := hide (L3A.out.keepsT (KeepsT.offGrown ROA.out (Ts := SaleTs) (by decide) hgr) (by decide))
              have BW3 := hide (BWA.out.grown hgr (Nat.le_trans HBS.out BWA.out.size) (fun jj hj => (ROA.out.lt jj hj).1))
              clear ho hgr hnil HDA XA ROA LNA L3A BWA KTA hwa
              refine hK.out _ _ (⟨⟨_, HD3.out⟩, X3.out⟩) (fun hHeld => ?_)
              clear hK K hOld
              try simp only [Act.put, List.setIfInBounds_toArray, List.set_cons_zero, List.set_cons_succ]
              refine wpAnyH_ready (rs := [12]) (by kernel_rfl) (by simp) (AllReadyH.cons (o := { dst := some 84, op := Op.call { callee := Callee.value (Operand.func 45), args := #[Operand.tmp 79, Operand.tmp 83], argTypes := #[67, 3] }, type := 67, pos := "sale.go:141", after := #[{ on := 7, ground := Ground.data }, { on := 11, ground := Ground.data }, { on := 7, ground := Ground.chain }], guard := none }) rfl (fun K hK => ?_) AllReadyH.nil)
              have hOld := hide hHeld
              clear hHeld
              go_simp
              refine (lastsl_any g3 o3 (T1.length + 1) c4 keep HKP.out (by omega) (OffRow.cap RO3.out) (OffRow.capMax RO3.out) _ rfl w3).mono ?_
              rintro e w4 ⟨rfl, rfl⟩
              have d2 := cell_of_block HD3.out 2
              have z2 := frozen_of_block HD3.out 2
              (try go_wp2_with fail)
              refine hK.out _ _ (⟨⟨_, HD3.out⟩, X3.out⟩) (fun hHeld => ?_)
              clear hK K hOld
              try simp only [Act.put, List.setIfInBounds_toArray, List.set_cons_zero, List.set_cons_succ]
              refine wpAnyH_take (i := 13) (oi := { dst := some 85, op := Op.nilCheck (Operand.tmp 72), type := 0, pos := "sale.go:141", after := #[{ on := 0, ground := Ground.data }, { on := 0, ground := Ground.phase }, { on := 1, ground := Ground.phase }, { on := 2, ground := Ground.phase }, { on := 3, ground := Ground.phase }, { on := 4, ground := Ground.phase }, { on := 5, ground := Ground.phase }, { on := 6, ground := Ground.phase }, { on := 7, ground := Ground.phase }, { on := 8, ground := Ground.phase }, { on := 9, ground := Ground.phase }, { on := 10, ground := Ground.phase }, { on := 11, ground := Ground.phase }, { on := 12, ground := Ground.phase }], guard := none }) (v := ?_) rfl (by kernel_rfl) (by kernel_rfl) (by kernel_rfl) (fun _ _ _ h => h) (Or.inl ⟨by kernel_rfl, ?_⟩) hHeld ?_
              rotate_left
              · (intro w hSw; (try dsimp only at hSw); obtain ⟨⟨v1, hp⟩, hx2⟩ := hSw; have e0 := cell_of_block hp 0; have x0 := cell_of_block hx2 0; have x1 := cell_of_block hx2 1; have x2 := cell_of_block hx2 2; have x3 := cell_of_block hx2 3; have x4 := cell_of_block hx2 4; have x5 := cell_of_block hx2 5; have x6 := cell_of_block hx2 6; have x7 := cell_of_block hx2 7; go_simp); try with_reducible rfl
              try simp only [Act.put, List.setIfInBounds_toArray, List.set_cons_zero, List.set_cons_succ]
              refine wpAnyH_take (i := 14) (oi := { dst := some 86, op := Op.fieldAddr 101 (Operand.tmp 85) 2, type := 0, pos := "sale.go:141", after := #[{ on := 13, ground := Ground.data }, { on := 0, ground := Ground.phase }, { on := 1, ground := Ground.phase }, { on := 2, ground := Ground.phase }, { on := 3, ground := Ground.phase }, { on := 4, ground := Ground.phase }, { on := 5, ground := Ground.phase }, { on := 6, ground := Ground.phase }, { on := 7, ground := Ground.phase }, { on := 8, ground := Ground.phase }, { on := 9, ground := Ground.phase }, { on := 10, ground := Ground.phase }, { on := 11, ground := Ground.phase }, { on := 12, ground := Ground.phase }], guard := none }) (v := ?_) rfl (by kernel_rfl) (by kernel_rfl) (by kernel_rfl) (fun _ _ _ h => h) (Or.inl ⟨by kernel_rfl, ?_⟩) hHeld ?_
              rotate_left
              · (intro w hSw; (try dsimp only at hSw); obtain ⟨⟨v1, hp⟩, hx2⟩ := hSw; have e0 := cell_of_block hp 0; have x0 := cell_of_block hx2 0; have x1 := cell_of_block hx2 1; have x2 := cell_of_block hx2 2; have x3 := cell_of_block hx2 3; have x4 := cell_of_block hx2 4; have x5 := cell_of_block hx2 5; have x6 := cell_of_block hx2 6; have x7 := cell_of_block hx2 7; go_simp); try with_reducible rfl
              try simp only [Act.put, List.setIfInBounds_toArray, List.set_cons_zero, List.set_cons_succ]
              refine wpAnyH_ready (rs := [15]) (by kernel_rfl) (by simp) (AllReadyH.cons (o := { dst := none, op := Op.store 67 (Operand.tmp 86) (Operand.tmp 84), type := 0, pos := "sale.go:141", after := #[{ on := 14, ground := Ground.data }, { on := 12, ground := Ground.data }, { on := 12, ground := Ground.chain }, { on := 0, ground := Ground.phase }, { on := 1, ground := Ground.phase }, { on := 2, ground := Ground.phase }, { on := 3, ground := Ground.phase }, { on := 4, ground := Ground.phase }, { on := 5, ground := Ground.phase }, { on := 6, ground := Ground.phase }, { on := 7, ground := Ground.phase }, { on := 8, ground := Ground.phase }, { on := 9, ground := Ground.phase }, { on := 10, ground := Ground.phase }, { on := 11, ground := Ground.phase }, { on := 12, ground := Ground.phase }], guard := none }) rfl (fun K hK => ?_) AllReadyH.nil)
              have hOld := hide hHeld
              clear hHeld
              go_simp
              skip
              (try go_wp2_with fail)
              refine hK.out _ _ (⟨⟨_, block_setCell HD3.out 2 _⟩, (block_setCell_other HPQ.out 2 _).trans X3.out⟩) (fun hHeld => ?_)
              clear hK K hOld
              try simp only [Act.put, List.setIfInBounds_toArray, List.set_cons_zero, List.set_cons_succ]
              refine wpAnyH_done (by kernel_rfl) ?_ _
              clear hHeld
              have HD4 := hide (block_setCell HD3.out 2 (.slice (some ⟨g3, o3 + (T1.length + 1 - keep.toNat) * 8, none⟩) (T1.length + 1 - (T1.length + 1 - keep.toNat)) (c4 - (T1.length + 1 - keep.toNat))))
              have X4 := hide ((block_setCell_other (v := .slice (some ⟨g3, o3 + (T1.length + 1 - keep.toNat) * 8, none⟩) (T1.length + 1 - (T1.length + 1 - keep.toNat)) (c4 - (T1.length + 1 - keep.toNat))) HPQ.out 2).trans X3.out)
              have K4 := hide (KeepsT.setCell (Ts := [101]) HD3.out (by decide) 2 (.slice (some ⟨g3, o3 + (T1.length + 1 - keep.toNat) * 8, none⟩) (T1.length + 1 - (T1.length + 1 - keep.toNat)) (c4 - (T1.length + 1 - keep.toNat))))
              have O4 := hide (OnlyL.setCell (qs := [p]) (a := w3) (q := p) (by simp) 2 (.slice (some ⟨g3, o3 + (T1.length + 1 - keep.toNat) * 8, none⟩) (T1.length + 1 - (T1.length + 1 - keep.toNat)) (c4 - (T1.length + 1 - keep.toNat))))
              have B4 := hide (BW3.out.setCell (p := ⟨p, 2, none⟩) HLOW.out (.slice (some ⟨g3, o3 + (T1.length + 1 - keep.toNat) * 8, none⟩) (T1.length + 1 - (T1.length + 1 - keep.toNat)) (c4 - (T1.length + 1 - keep.toNat))))
              generalize w3.setCell ⟨p, 2, none⟩ (.slice (some ⟨g3, o3 + (T1.length + 1 - keep.toNat) * 8, none⟩) (T1.length + 1 - (T1.length + 1 - keep.toNat)) (c4 - (T1.length + 1 - keep.toNat))) = w4 at *
              have RO4 := hide ((RO3.out.drop (T1.length + 1 - keep.toNat) (by omega)).keepsT K4.out (by decide))
              have LN4 := hide (show ∀ y ∈ T1, LnT w4 y.la y.t.L from fun y hy => (LN3.out y hy).keepsT K4.out (by decide))
              have L34 := hide (L33.out.keepsT K4.out (by decide))
              have KT4 := hide (KT3.out.add (K4.out.mono (by decide)) O4.out (fun r hr => .inl (by rw [List.mem_singleton.1 hr]; exact HQP.out)))
              clear HD3 X3 K4 O4 RO3 LN3 L33 BW3 KT3
              have e0 := cell_of_block X4.out 0
              go_wp2_with fail
              go_ret2
              exact HFIN.out _ _ _ _ a3 c3 HD4.out RO4.out LN4.out L34.out B4.out KT4.out
              
          · have HFIN := hide (fun g3 o3 c4 W a3 c3 h4 h5 h6 h7 h8 h9 => HFN.out 0 T1 HE.out HT1.out (if_neg hk1).symm g3 o3 c4 W a3 c3 h4 h5 h6 h7 h8 h9)
            go_upto_region 20 with (fail)
            clear x1 x4 y5 x5 hk1
            have c1 := cell_of_block HD.out 1
            have d1 := frozen_of_block HD.out 1
            have hnw : wrap64 (next + 1) = next + 1 := by have := HNX.out; unfold wrap64; omega
            go_upto_region 21 with (fail)
            clear c1 d1 hnw
            have HD' := hide (show (w9.setCell ⟨p, 1, none⟩ (.int .i64 (next + 1))).heap[p]? = some (.cells #[.int .i64 keep, .int .i64 (next + 1), .slice (some ⟨g, o, none⟩) T1.length cap] 101 (0, 0)) from block_setCell HD.out 1 _)
            have X' := hide ((block_setCell_other (v := .int .i64 (next + 1)) HPQ.out 1).trans X.out)
            have K' := hide (KeepsT.setCell (Ts := [101]) HD.out (by decide) 1 (.int .i64 (next + 1)))
            have RO' := hide (RO.out.keepsT K'.out (by decide))
            have LN' := hide (show ∀ y ∈ T1, LnT (w9.setCell ⟨p, 1, none⟩ (.int .i64 (next + 1))) y.la y.t.L from fun y hy => (LN.out y hy).keepsT K'.out (by decide))
            have L3' := hide (L3.out.keepsT K'.out (by decide))
            have BW' := hide (BW.out.setCell (p := ⟨p, 1, none⟩) HLOW.out (.int .i64 (next + 1)))
            have KT' := hide (KT.out.add (K'.out.mono (by decide)) (OnlyL.setCell (qs := [p]) (a := w9) (q := p) (by simp) 1 (.int .i64 (next + 1))) (fun r hr => .inl (by rw [List.mem_singleton.1 hr]; exact HQP.out)))
            clear HD X RO LN L3 BW KT K'
            generalize w9.setCell ⟨p, 1, none⟩ (.int .i64 (next + 1)) = wt at *
            have HD := hide HD'.out
            have X := hide X'.out
            have RO := hide RO'.out
            have LN := hide LN'.out
            have L3 := hide L3'.out
            have BW := hide BW'.out
            have KT := hide KT'.out
            clear HD' X' RO' LN' L3' BW' KT'
            refine wp_region_held_drew (S := (fun W => (∃ v1, W.heap[p]? = some (.cells #[.int .i64 keep, .int .i64 (next + 1), v1] 101 (0, 0))) ∧ W.heap[q]? = some (.cells #[.int .i64 next, .int .u8 x.t.kind, .int .i64 x.t.shift, .int .i64 x.t.ref, .int .i64 x.t.amt, .int .i64 0, .bool false, .slice a3 x.t.L.length c3] 35 (0, 0)))) (by kernel_rfl) (⟨⟨_, HD.out⟩, X.out⟩) (fun hHeld => ?_)
            have HDD := hide (show wt.drew.heap[p]? = some (.cells #[.int .i64 keep, .int .i64 (next + 1), .slice (some ⟨g, o, none⟩) T1.length cap] 101 (0, 0)) from HD.out)
            have XD := hide (show wt.drew.heap[q]? = some (.cells #[.int .i64 next, .int .u8 x.t.kind, .int .i64 x.t.shift, .int .i64 x.t.ref, .int .i64 x.t.amt, .int .i64 0, .bool false, .slice a3 x.t.L.length c3] 35 (0, 0)) from X.out)
            have ROD := hide RO.out.drew
            have LND := hide (show ∀ y ∈ T1, LnT wt.drew y.la y.t.L from fun y hy => LN.out y hy)
            have L3D := hide (show LnT wt.drew a3 x.t.L from L3.out)
            have BWD := hide BW.out.drew
            have KTD := hide KT.out.drew
            generalize wt.drew = v0 at *
            have al := (Below.refl v0.heap.size v0).alloc (Nat.le_refl _) (.cells #[.int .i64 next, .int .u8 x.t.kind, .int .i64 x.t.shift, .int .i64 x.t.ref, .int .i64 x.t.amt, .int .i64 0, .bool false, .slice a3 x.t.L.length c3] 35)
            have XB := hide (heap_new v0 (.cells #[.int .i64 next, .int .u8 x.t.kind, .int .i64 x.t.shift, .int .i64 x.t.ref, .int .i64 x.t.amt, .int .i64 0, .bool false, .slice a3 x.t.L.length c3] 35))
            have HDA := hide ((al.block _ (heap_lt HDD.out)).trans HDD.out)
            have XA := hide ((al.block _ (heap_lt XD.out)).trans XD.out)
            have ROA := hide (ROD.out.below al)
            have LNA := hide (show ∀ y ∈ T1, LnT (v0.alloc (.cells #[.int .i64 next, .int .u8 x.t.kind, .int .i64 x.t.shift, .int .i64 x.t.ref, .int .i64 x.t.amt, .int .i64 0, .bool false, .slice a3 x.t.L.length c3] 35)) y.la y.t.L from fun y hy => (LND.out y hy).below al)
            have L3A := hide (L3D.out.below al)
            have BWA := hide (BWD.out.trans (al.mono (Nat.le_trans HBS.out BWD.out.size)))
            have KTA := hide (KTD.out.below al)
            have hwa : B ≤ (v0.alloc (.cells #[.int .i64 next, .int .u8 x.t.kind, .int .i64 x.t.shift, .int .i64 x.t.ref, .int .i64 x.t.amt, .int .i64 0, .bool false, .slice a3 x.t.L.length c3] 35)).heap.size := Nat.le_trans HBS.out BWA.out.size
            have g2 := cell_of_block HDD.out 2
            have g2A := cell_of_block HDA.out 2
            have h8 : (T1.flatMap txC).length = T1.length * 8 := flat_length txC 8 txC_length T1
            clear al HD X RO LN L3 BW KT HDD XD ROD LND L3D BWD KTD
            refine wpAnyH_take (i := 0) (oi := { dst := some 72, op := Op.move (Operand.tmp 0), type := 49, pos := "sale.go:141", after := #[], guard := none }) (v := ?_) rfl (by kernel_rfl) (by kernel_rfl) (by kernel_rfl) (fun _ _ _ h => h) (Or.inl ⟨by kernel_rfl, ?_⟩) hHeld ?_
            rotate_left
            · (intro w hSw; (try dsimp only at hSw); obtain ⟨⟨v1, hp⟩, hx2⟩ := hSw; have e0 := cell_of_block hp 0; have x0 := cell_of_block hx2 0; have x1 := cell_of_block hx2 1; have x2 := cell_of_block hx2 2; have x3 := cell_of_block hx2 3; have x4 := cell_of_block hx2 4; have x5 := cell_of_block hx2 5; have x6 := cell_of_block hx2 6; have x7 := cell_of_block hx2 7; go_simp); try with_reducible rfl
            try simp only [Act.put, List.setIfInBounds_toArray, List.set_cons_zero, List.set_cons_succ]
            refine wpAnyH_take (i := 1) (oi := { dst := some 73, op := Op.move (Operand.tmp 0), type := 49, pos := "sale.go:141", after := #[], guard := none }) (v := ?_) rfl (by kernel_rfl) (by kernel_rfl) (by kernel_rfl) (fun _ _ _ h => h) (Or.inl ⟨by kernel_rfl, ?_⟩) hHeld ?_
            rotate_left
            · (intro w hSw; (try dsimp only at hSw); obtain ⟨⟨v1, hp⟩, hx2⟩ := hSw; have e0 := cell_of_block hp 0; have x0 := cell_of_block hx2 0; have x1 := cell_of_block hx2 1; have x2 := cell_of_block hx2 2; have x3 := cell_of_block hx2 3; have x4 := cell_of_block hx2 4; have x5 := cell_of_block hx2 5; have x6 := cell_of_block hx2 6; have x7 := cell_of_block hx2 7; go_simp); try with_reducible rfl
            try simp only [Act.put, List.setIfInBounds_toArray, List.set_cons_zero, List.set_cons_succ]
            refine wpAnyH_take (i := 2) (oi := { dst := some 74, op := Op.nilCheck (Operand.tmp 73), type := 0, pos := "sale.go:141", after := #[{ on := 1, ground := Ground.data }], guard := none }) (v := ?_) rfl (by kernel_rfl) (by kernel_rfl) (by kernel_rfl) (fun _ _ _ h => h) (Or.inl ⟨by kernel_rfl, ?_⟩) hHeld ?_
            rotate_left
            · (intro w hSw; (try dsimp only at hSw); obtain ⟨⟨v1, hp⟩, hx2⟩ := hSw; have e0 := cell_of_block hp 0; have x0 := cell_of_block hx2 0; have x1 := cell_of_block hx2 1; have x2 := cell_of_block hx2 2; have x3 := cell_of_block hx2 3; have x4 := cell_of_block hx2 4; have x5 := cell_of_block hx2 5; have x6 := cell_of_block hx2 6; have x7 := cell_of_block hx2 7; go_simp); try with_reducible rfl
            try simp only [Act.put, List.setIfInBounds_toArray, List.set_cons_zero, List.set_cons_succ]
            refine wpAnyH_take (i := 3) (oi := { dst := some 75, op := Op.fieldAddr 101 (Operand.tmp 74) 2, type := 0, pos := "sale.go:141", after := #[{ on := 2, ground := Ground.data }], guard := none }) (v := ?_) rfl (by kernel_rfl) (by kernel_rfl) (by kernel_rfl) (fun _ _ _ h => h) (Or.inl ⟨by kernel_rfl, ?_⟩) hHeld ?_
            rotate_left
            · (intro w hSw; (try dsimp only at hSw); obtain ⟨⟨v1, hp⟩, hx2⟩ := hSw; have e0 := cell_of_block hp 0; have x0 := cell_of_block hx2 0; have x1 := cell_of_block hx2 1; have x2 := cell_of_block hx2 2; have x3 := cell_of_block hx2 3; have x4 := cell_of_block hx2 4; have x5 := cell_of_block hx2 5; have x6 := cell_of_block hx2 6; have x7 := cell_of_block hx2 7; go_simp); try with_reducible rfl
            try simp only [Act.put, List.setIfInBounds_toArray, List.set_cons_zero, List.set_cons_succ]
            refine wpAnyH_take (i := 5) (oi := { dst := some 77, op := Op.load 35 (Operand.tmp 3), type := 35, pos := "sale.go:141", after := #[], guard := none }) (v := ?_) rfl (by kernel_rfl) (by kernel_rfl) (by kernel_rfl) (fun _ _ _ h => h) (Or.inl ⟨by kernel_rfl, ?_⟩) hHeld ?_
            rotate_left
            · (intro w hSw; (try dsimp only at hSw); obtain ⟨⟨v1, hp⟩, hx2⟩ := hSw; have e0 := cell_of_block hp 0; have x0 := cell_of_block hx2 0; have x1 := cell_of_block hx2 1; have x2 := cell_of_block hx2 2; have x3 := cell_of_block hx2 3; have x4 := cell_of_block hx2 4; have x5 := cell_of_block hx2 5; have x6 := cell_of_block hx2 6; have x7 := cell_of_block hx2 7; go_simp); try with_reducible rfl
            try simp only [Act.put, List.setIfInBounds_toArray, List.set_cons_zero, List.set_cons_succ]
            refine wpAnyH_take (i := 8) (oi := { dst := some 80, op := Op.move (Operand.tmp 0), type := 49, pos := "sale.go:141", after := #[], guard := none }) (v := ?_) rfl (by kernel_rfl) (by kernel_rfl) (by kernel_rfl) (fun _ _ _ h => h) (Or.inl ⟨by kernel_rfl, ?_⟩) hHeld ?_
            rotate_left
            · (intro w hSw; (try dsimp only at hSw); obtain ⟨⟨v1, hp⟩, hx2⟩ := hSw; have e0 := cell_of_block hp 0; have x0 := cell_of_block hx2 0; have x1 := cell_of_block hx2 1; have x2 := cell_of_block hx2 2; have x3 := cell_of_block hx2 3; have x4 := cell_of_block hx2 4; have x5 := cell_of_block hx2 5; have x6 := cell_of_block hx2 6; have x7 := cell_of_block hx2 7; go_simp); try with_reducible rfl
            try simp only [Act.put, List.setIfInBounds_toArray, List.set_cons_zero, List.set_cons_succ]
            refine wpAnyH_take (i := 9) (oi := { dst := some 81, op := Op.nilCheck (Operand.tmp 80), type := 0, pos := "sale.go:141", after := #[{ on := 8, ground := Ground.data }], guard := none }) (v := ?_) rfl (by kernel_rfl) (by kernel_rfl) (by kernel_rfl) (fun _ _ _ h => h) (Or.inl ⟨by kernel_rfl, ?_⟩) hHeld ?_
            rotate_left
            · (intro w hSw; (try dsimp only at hSw); obtain ⟨⟨v1, hp⟩, hx2⟩ := hSw; have e0 := cell_of_block hp 0; have x0 := cell_of_block hx2 0; have x1 := cell_of_block hx2 1; have x2 := cell_of_block hx2 2; have x3 := cell_of_block hx2 3; have x4 := cell_of_block hx2 4; have x5 := cell_of_block hx2 5; have x6 := cell_of_block hx2 6; have x7 := cell_of_block hx2 7; go_simp); try with_reducible rfl
            try simp only [Act.put, List.setIfInBounds_toArray, List.set_cons_zero, List.set_cons_succ]
            refine wpAnyH_take (i := 10) (oi := { dst := some 82, op := Op.fieldAddr 101 (Operand.tmp 81) 0, type := 0, pos := "sale.go:141", after := #[{ on := 9, ground := Ground.data }], guard := none }) (v := ?_) rfl (by kernel_rfl) (by kernel_rfl) (by kernel_rfl) (fun _ _ _ h => h) (Or.inl ⟨by kernel_rfl, ?_⟩) hHeld ?_
            rotate_left
            · (intro w hSw; (try dsimp only at hSw); obtain ⟨⟨v1, hp⟩, hx2⟩ := hSw; have e0 := cell_of_block hp 0; have x0 := cell_of_block hx2 0; have x1 := cell_of_block hx2 1; have x2 := cell_of_block hx2 2; have x3 := cell_of_block hx2 3; have x4 := cell_of_block hx2 4; have x5 := cell_of_block hx2 5; have x6 := cell_of_block hx2 6; have x7 := cell_of_block hx2 7; go_simp); try with_reducible rfl
            try simp only [Act.put, List.setIfInBounds_toArray, List.set_cons_zero, List.set_cons_succ]
            refine wpAnyH_take (i := 11) (oi := { dst := some 83, op := Op.load 3 (Operand.tmp 82), type := 3, pos := "sale.go:141", after := #[{ on := 10, ground := Ground.data }], guard := none }) (v := ?_) rfl (by kernel_rfl) (by kernel_rfl) (by kernel_rfl) (fun _ _ _ h => h) (Or.inl ⟨by kernel_rfl, ?_⟩) hHeld ?_
            rotate_left
            · (intro w hSw; (try dsimp only at hSw); obtain ⟨⟨v1, hp⟩, hx2⟩ := hSw; have e0 := cell_of_block hp 0; have x0 := cell_of_block hx2 0; have x1 := cell_of_block hx2 1; have x2 := cell_of_block hx2 2; have x3 := cell_of_block hx2 3; have x4 := cell_of_block hx2 4; have x5 := cell_of_block hx2 5; have x6 := cell_of_block hx2 6; have x7 := cell_of_block hx2 7; go_simp); try with_reducible rfl
            try simp only [Act.put, List.setIfInBounds_toArray, List.set_cons_zero, List.set_cons_succ]
            refine wpAnyH_ready (rs := [4, 6]) (by kernel_rfl) (by simp) (AllReadyH.cons (o := { dst := some 76, op := Op.load 67 (Operand.tmp 75), type := 67, pos := "sale.go:141", after := #[{ on := 3, ground := Ground.data }], guard := none }) rfl (fun K hK => ?_) (AllReadyH.cons (o := { dst := some 78, op := Op.buildSlice 67 1 #[(0, Operand.tmp 77)], type := 67, pos := "sale.go:141", after := #[{ on := 5, ground := Ground.data }], guard := none }) rfl (fun K hK => ?_) AllReadyH.nil))
            · have hOld := hide hHeld
              clear hHeld
              go_simp
              skip
              (try go_wp2_with fail)
              refine hK.out _ _ (hOld.out) (fun hHeld => ?_)
              clear hK K hOld
              try simp only [Act.put, List.setIfInBounds_toArray, List.set_cons_zero, List.set_cons_succ]
              refine wpAnyH_ready (rs := [6]) (by kernel_rfl) (by simp) (AllReadyH.cons (o := { dst := some 78, op := Op.buildSlice 67 1 #[(0, Operand.tmp 77)], type := 67, pos := "sale.go:141", after := #[{ on := 5, ground := Ground.data }], guard := none }) rfl (fun K hK => ?_) AllReadyH.nil)
              have hOld := hide hHeld
              clear hHeld
              go_simp
              skip
              (try go_wp2_with fail)
              refine hK.out _ _ (⟨⟨_, HDA.out⟩, XA.out⟩) (fun hHeld => ?_)
              clear hK K hOld
              try simp only [Act.put, List.setIfInBounds_toArray, List.set_cons_zero, List.set_cons_succ]
              refine wpAnyH_ready (rs := [7]) (by kernel_rfl) (by simp) (AllReadyH.cons (o := { dst := some 79, op := Op.call { callee := Callee.builtin Builtin.append, args := #[Operand.tmp 76, Operand.tmp 78], argTypes := #[67, 67] }, type := 67, pos := "sale.go:141", after := #[{ on := 4, ground := Ground.data }, { on := 6, ground := Ground.data }], guard := none }) rfl (fun K hK => ?_) AllReadyH.nil)
              have hOld := hide hHeld
              clear hHeld
              clear g2 g2A
              refine wp_append_off _ (.tmp 76) (.tmp 78) 67 rfl B 35 i0 (.agg #[.int .i64 0, .int .u8 0, .int .i64 0, .int .i64 0, .int .i64 0, .int .i64 0, .bool false, .slice none 0 0]) 8 80 Try.underlying67 HI.out HZ0.out HZ1.out HZ2.out rfl (by decide) (.slice (some ⟨g, o, none⟩) T1.length cap) T1.length (T1.flatMap txC) rfl ROA.out ⟨v0.heap.size, 0, none⟩ 1 1 (by decide) [.int .i64 next, .int .u8 x.t.kind, .int .i64 x.t.shift, .int .i64 x.t.ref, .int .i64 x.t.amt, .int .i64 0, .bool false, .slice a3 x.t.L.length c3] rfl rfl (cells_new XB.out) (by simp [Value.oneCell']) (by unfold maxLen; omega) (by omega) hwa ?_
              intro g3 o3 c4 w3 ho hgr hnil
              have RO3 := hide ho
              have KT3 := hide (KTA.out.add (KeepsT.offGrown ROA.out (by decide) hgr) (onlyL_of_grown hgr) (fun r hr => .inl (HQV.out r (Option.mem_toList.1 hr))))
              have HD3 := hide ((hgr.block p (heap_lt HDA.out) (fun e => by obtain ⟨cc, fz, hc⟩ := ROA.out.kind p e.symm; rw [HDA.out] at hc; simp only [Option.some.injEq, Obj.cells.injEq] at hc; exact absurd hc.2.1 (by decide))).trans HDA.out)
              have X3 := hide ((hgr.block q (heap_lt XA.out) (fun e => HQN.out q e.symm rfl)).trans XA.out)
              have LN3 := hide (show ∀ y ∈ T1, LnT w3 y.la y.t.L from fun y hy => (LNA.out y hy).keepsT (KeepsT.offGrown ROA.out (Ts := SaleTs) (by decide) hgr) (by decide))
              have L33 := hide (L3A.out.keepsT (KeepsT.offGrown ROA.out (Ts := SaleTs) (by decide) hgr) (by decide))
              have BW3 := hide (BWA.out.grown hgr (Nat.le_trans HBS.out BWA.out.size) (fun jj hj => (ROA.out.lt jj hj).1))
              clear ho hgr hnil HDA XA ROA LNA L3A BWA KTA hwa
              refine hK.out _ _ (⟨⟨_, HD3.out⟩, X3.out⟩) (fun hHeld => ?_)
              clear hK K hOld
              try simp only [Act.put, List.setIfInBounds_toArray, List.set_cons_zero, List.set_cons_succ]
              refine wpAnyH_ready (rs := [12]) (by kernel_rfl) (by simp) (AllReadyH.cons (o := { dst := some 84, op := Op.call { callee := Callee.value (Operand.func 45), args := #[Operand.tmp 79, Operand.tmp 83], argTypes := #[67, 3] }, type := 67, pos := "sale.go:141", after := #[{ on := 7, ground := Ground.data }, { on := 11, ground := Ground.data }, { on := 7, ground := Ground.chain }], guard := none }) rfl (fun K hK => ?_) AllReadyH.nil)
              have hOld := hide hHeld
              clear hHeld
              go_simp
              refine (lastsl_any g3 o3 (T1.length + 1) c4 keep HKP.out (by omega) (OffRow.cap RO3.out) (OffRow.capMax RO3.out) _ rfl w3).mono ?_
              rintro e w4 ⟨rfl, rfl⟩
              have d2 := cell_of_block HD3.out 2
              have z2 := frozen_of_block HD3.out 2
              (try go_wp2_with fail)
              refine hK.out _ _ (⟨⟨_, HD3.out⟩, X3.out⟩) (fun hHeld => ?_)
              clear hK K hOld
              try simp only [Act.put, List.setIfInBounds_toArray, List.set_cons_zero, List.set_cons_succ]
              refine wpAnyH_take (i := 13) (oi := { dst := some 85, op := Op.nilCheck (Operand.tmp 72), type := 0, pos := "sale.go:141", after := #[{ on := 0, ground := Ground.data }, { on := 0, ground := Ground.phase }, { on := 1, ground := Ground.phase }, { on := 2, ground := Ground.phase }, { on := 3, ground := Ground.phase }, { on := 4, ground := Ground.phase }, { on := 5, ground := Ground.phase }, { on := 6, ground := Ground.phase }, { on := 7, ground := Ground.phase }, { on := 8, ground := Ground.phase }, { on := 9, ground := Ground.phase }, { on := 10, ground := Ground.phase }, { on := 11, ground := Ground.phase }, { on := 12, ground := Ground.phase }], guard := none }) (v := ?_) rfl (by kernel_rfl) (by kernel_rfl) (by kernel_rfl) (fun _ _ _ h => h) (Or.inl ⟨by kernel_rfl, ?_⟩) hHeld ?_
              rotate_left
              · (intro w hSw; (try dsimp only at hSw); obtain ⟨⟨v1, hp⟩, hx2⟩ := hSw; have e0 := cell_of_block hp 0; have x0 := cell_of_block hx2 0; have x1 := cell_of_block hx2 1; have x2 := cell_of_block hx2 2; have x3 := cell_of_block hx2 3; have x4 := cell_of_block hx2 4; have x5 := cell_of_block hx2 5; have x6 := cell_of_block hx2 6; have x7 := cell_of_block hx2 7; go_simp); try with_reducible rfl
              try simp only [Act.put, List.setIfInBounds_toArray, List.set_cons_zero, List.set_cons_succ]
              refine wpAnyH_take (i := 14) (oi := { dst := some 86, op := Op.fieldAddr 101 (Operand.tmp 85) 2, type := 0, pos := "sale.go:141", after := #[{ on := 13, ground := Ground.data }, { on := 0, ground := Ground.phase }, { on := 1, ground := Ground.phase }, { on := 2, ground := Ground.phase }, { on := 3, ground := Ground.phase }, { on := 4, ground := Ground.phase }, { on := 5, ground := Ground.phase }, { on := 6, ground := Ground.phase }, { on := 7, ground := Ground.phase }, { on := 8, ground := Ground.phase }, { on := 9, ground := Ground.phase }, { on := 10, ground := Ground.phase }, { on := 11, ground := Ground.phase }, { on := 12, ground := Ground.phase }], guard := none }) (v := ?_) rfl (by kernel_rfl) (by kernel_rfl) (by kernel_rfl) (fun _ _ _ h => h) (Or.inl ⟨by kernel_rfl, ?_⟩) hHeld ?_
              rotate_left
              · (intro w hSw; (try dsimp only at hSw); obtain ⟨⟨v1, hp⟩, hx2⟩ := hSw; have e0 := cell_of_block hp 0; have x0 := cell_of_block hx2 0; have x1 := cell_of_block hx2 1; have x2 := cell_of_block hx2 2; have x3 := cell_of_block hx2 3; have x4 := cell_of_block hx2 4; have x5 := cell_of_block hx2 5; have x6 := cell_of_block hx2 6; have x7 := cell_of_block hx2 7; go_simp); try with_reducible rfl
              try simp only [Act.put, List.setIfInBounds_toArray, List.set_cons_zero, List.set_cons_succ]
              refine wpAnyH_ready (rs := [15]) (by kernel_rfl) (by simp) (AllReadyH.cons (o := { dst := none, op := Op.store 67 (Operand.tmp 86) (Operand.tmp 84), type := 0, pos := "sale.go:141", after := #[{ on := 14, ground := Ground.data }, { on := 12, ground := Ground.data }, { on := 12, ground := Ground.chain }, { on := 0, ground := Ground.phase }, { on := 1, ground := Ground.phase }, { on := 2, ground := Ground.phase }, { on := 3, ground := Ground.phase }, { on := 4, ground := Ground.phase }, { on := 5, ground := Ground.phase }, { on := 6, ground := Ground.phase }, { on := 7, ground := Ground.phase }, { on := 8, ground := Ground.phase }, { on := 9, ground := Ground.phase }, { on := 10, ground := Ground.phase }, { on := 11, ground := Ground.phase }, { on := 12, ground := Ground.phase }], guard := none }) rfl (fun K hK => ?_) AllReadyH.nil)
              have hOld := hide hHeld
              clear hHeld
              go_simp
              skip
              (try go_wp2_with fail)
              refine hK.out _ _ (⟨⟨_, block_setCell HD3.out 2 _⟩, (block_setCell_other HPQ.out 2 _).trans X3.out⟩) (fun hHeld => ?_)
              clear hK K hOld
              try simp only [Act.put, List.setIfInBounds_toArray, List.set_cons_zero, List.set_cons_succ]
              refine wpAnyH_done (by kernel_rfl) ?_ _
              clear hHeld
              have HD4 := hide (block_setCell HD3.out 2 (.slice (some ⟨g3, o3 + (T1.length + 1 - keep.toNat) * 8, none⟩) (T1.length + 1 - (T1.length + 1 - keep.toNat)) (c4 - (T1.length + 1 - keep.toNat))))
              have X4 := hide ((block_setCell_other (v := .slice (some ⟨g3, o3 + (T1.length + 1 - keep.toNat) * 8, none⟩) (T1.length + 1 - (T1.length + 1 - keep.toNat)) (c4 - (T1.length + 1 - keep.toNat))) HPQ.out 2).trans X3.out)
              have K4 := hide (KeepsT.setCell (Ts := [101]) HD3.out (by decide) 2 (.slice (some ⟨g3, o3 + (T1.length + 1 - keep.toNat) * 8, none⟩) (T1.length + 1 - (T1.length + 1 - keep.toNat)) (c4 - (T1.length + 1 - keep.toNat))))
              have O4 := hide (OnlyL.setCell (qs := [p]) (a := w3) (q := p) (by simp) 2 (.slice (some ⟨g3, o3 + (T1.length + 1 - keep.toNat) * 8, none⟩) (T1.length + 1 - (T1.length + 1 - keep.toNat)) (c4 - (T1.length + 1 - keep.toNat))))
              have B4 := hide (BW3.out.setCell (p := ⟨p, 2, none⟩) HLOW.out (.slice (some ⟨g3, o3 + (T1.length + 1 - keep.toNat) * 8, none⟩) (T1.length + 1 - (T1.length + 1 - keep.toNat)) (c4 - (T1.length + 1 - keep.toNat))))
              generalize w3.setCell ⟨p, 2, none⟩ (.slice (some ⟨g3, o3 + (T1.length + 1 - keep.toNat) * 8, none⟩) (T1.length + 1 - (T1.length + 1 - keep.toNat)) (c4 - (T1.length + 1 - keep.toNat))) = w4 at *
              have RO4 := hide ((RO3.out.drop (T1.length + 1 - keep.toNat) (by omega)).keepsT K4.out (by decide))
              have LN4 := hide (show ∀ y ∈ T1, LnT w4 y.la y.t.L from fun y hy => (LN3.out y hy).keepsT K4.out (by decide))
              have L34 := hide (L33.out.keepsT K4.out (by decide))
              have KT4 := hide (KT3.out.add (K4.out.mono (by decide)) O4.out (fun r hr => .inl (by rw [List.mem_singleton.1 hr]; exact HQP.out)))
              clear HD3 X3 K4 O4 RO3 LN3 L33 BW3 KT3
              have e0 := cell_of_block X4.out 0
              go_wp2_with fail
              go_ret2
              exact HFIN.out _ _ _ _ a3 c3 HD4.out RO4.out LN4.out L34.out B4.out KT4.out
              
            · have hOld := hide hHeld
              clear hHeld
              go_simp
              skip
              (try go_wp2_with fail)
              refine hK.out _ _ (⟨⟨_, HDA.out⟩, XA.out⟩) (fun hHeld => ?_)
              clear hK K hOld
              try simp only [Act.put, List.setIfInBounds_toArray, List.set_cons_zero, List.set_cons_succ]
              refine wpAnyH_ready (rs := [4]) (by kernel_rfl) (by simp) (AllReadyH.cons (o := { dst := some 76, op := Op.load 67 (Operand.tmp 75), type := 67, pos := "sale.go:141", after := #[{ on := 3, ground := Ground.data }], guard := none }) rfl (fun K hK => ?_) AllReadyH.nil)
              have hOld := hide hHeld
              clear hHeld
              go_simp
              skip
              (try go_wp2_with fail)
              refine hK.out _ _ (hOld.out) (fun hHeld => ?_)
              clear hK K hOld
              try simp only [Act.put, List.setIfInBounds_toArray, List.set_cons_zero, List.set_cons_succ]
              refine wpAnyH_ready (rs := [7]) (by kernel_rfl) (by simp) (AllReadyH.cons (o := { dst := some 79, op := Op.call { callee := Callee.builtin Builtin.append, args := #[Operand.tmp 76, Operand.tmp 78], argTypes := #[67, 67] }, type := 67, pos := "sale.go:141", after := #[{ on := 4, ground := Ground.data }, { on := 6, ground := Ground.data }], guard := none }) rfl (fun K hK => ?_) AllReadyH.nil)
              have hOld := hide hHeld
              clear hHeld
              clear g2 g2A
              refine wp_append_off _ (.tmp 76) (.tmp 78) 67 rfl B 35 i0 (.agg #[.int .i64 0, .int .u8 0, .int .i64 0, .int .i64 0, .int .i64 0, .int .i64 0, .bool false, .slice none 0 0]) 8 80 Try.underlying67 HI.out HZ0.out HZ1.out HZ2.out rfl (by decide) (.slice (some ⟨g, o, none⟩) T1.length cap) T1.length (T1.flatMap txC) rfl ROA.out ⟨v0.heap.size, 0, none⟩ 1 1 (by decide) [.int .i64 next, .int .u8 x.t.kind, .int .i64 x.t.shift, .int .i64 x.t.ref, .int .i64 x.t.amt, .int .i64 0, .bool false, .slice a3 x.t.L.length c3] rfl rfl (cells_new XB.out) (by simp [Value.oneCell']) (by unfold maxLen; omega) (by omega) hwa ?_
              intro g3 o3 c4 w3 ho hgr hnil
              have RO3 := hide ho
              have KT3 := hide (KTA.out.add (KeepsT.offGrown ROA.out (by decide) hgr) (onlyL_of_grown hgr) (fun r hr => .inl (HQV.out r (Option.mem_toList.1 hr))))
              have HD3 := hide ((hgr.block p (heap_lt HDA.out) (fun e => by obtain ⟨cc, fz, hc⟩ := ROA.out.kind p e.symm; rw [HDA.out] at hc; simp only [Option.some.injEq, Obj.cells.injEq] at hc; exact absurd hc.2.1 (by decide))).trans HDA.out)
              have X3 := hide ((hgr.block q (heap_lt XA.out) (fun e => HQN.out q e.symm rfl)).trans XA.out)
              have LN3 := hide (show ∀ y ∈ T1, LnT w3 y.la y.t.L from fun y hy => (LNA.out y hy).keepsT (KeepsT.offGrown ROA.out (Ts := SaleTs) (by decide) hgr) (by decide))
              have L33 := hide (L3A.out.keepsT (KeepsT.offGrown ROA.out (Ts := SaleTs) (by decide) hgr) (by decide))
              have BW3 := hide (BWA.out.grown hgr (Nat.le_trans HBS.out BWA.out.size) (fun jj hj => (ROA.out.lt jj hj).1))
              clear ho hgr hnil HDA XA ROA LNA L3A BWA KTA hwa
              refine hK.out _ _ (⟨⟨_, HD3.out⟩, X3.out⟩) (fun hHeld => ?_)
              clear hK K hOld
              try simp only [Act.put, List.setIfInBounds_toArray, List.set_cons_zero, List.set_cons_succ]
              refine wpAnyH_ready (rs := [12]) (by kernel_rfl) (by simp) (AllReadyH.cons (o := { dst := some 84, op := Op.call { callee := Callee.value (Operand.func 45), args := #[Operand.tmp 79, Operand.tmp 83], argTypes := #[67, 3] }, type := 67, pos := "sale.go:141", after := #[{ on := 7, ground := Ground.data }, { on := 11, ground := Ground.data }, { on := 7, ground := Ground.chain }], guard := none }) rfl (fun K hK => ?_) AllReadyH.nil)
              have hOld := hide hHeld
              clear hHeld
              go_simp
              refine (lastsl_any g3 o3 (T1.length + 1) c4 keep HKP.out (by omega) (OffRow.cap RO3.out) (OffRow.capMax RO3.out) _ rfl w3).mono ?_
              rintro e w4 ⟨rfl, rfl⟩
              have d2 := cell_of_block HD3.out 2
              have z2 := frozen_of_block HD3.out 2
              (try go_wp2_with fail)
              refine hK.out _ _ (⟨⟨_, HD3.out⟩, X3.out⟩) (fun hHeld => ?_)
              clear hK K hOld
              try simp only [Act.put, List.setIfInBounds_toArray, List.set_cons_zero, List.set_cons_succ]
              refine wpAnyH_take (i := 13) (oi := { dst := some 85, op := Op.nilCheck (Operand.tmp 72), type := 0, pos := "sale.go:141", after := #[{ on := 0, ground := Ground.data }, { on := 0, ground := Ground.phase }, { on := 1, ground := Ground.phase }, { on := 2, ground := Ground.phase }, { on := 3, ground := Ground.phase }, { on := 4, ground := Ground.phase }, { on := 5, ground := Ground.phase }, { on := 6, ground := Ground.phase }, { on := 7, ground := Ground.phase }, { on := 8, ground := Ground.phase }, { on := 9, ground := Ground.phase }, { on := 10, ground := Ground.phase }, { on := 11, ground := Ground.phase }, { on := 12, ground := Ground.phase }], guard := none }) (v := ?_) rfl (by kernel_rfl) (by kernel_rfl) (by kernel_rfl) (fun _ _ _ h => h) (Or.inl ⟨by kernel_rfl, ?_⟩) hHeld ?_
              rotate_left
              · (intro w hSw; (try dsimp only at hSw); obtain ⟨⟨v1, hp⟩, hx2⟩ := hSw; have e0 := cell_of_block hp 0; have x0 := cell_of_block hx2 0; have x1 := cell_of_block hx2 1; have x2 := cell_of_block hx2 2; have x3 := cell_of_block hx2 3; have x4 := cell_of_block hx2 4; have x5 := cell_of_block hx2 5; have x6 := cell_of_block hx2 6; have x7 := cell_of_block hx2 7; go_simp); try with_reducible rfl
              try simp only [Act.put, List.setIfInBounds_toArray, List.set_cons_zero, List.set_cons_succ]
              refine wpAnyH_take (i := 14) (oi := { dst := some 86, op := Op.fieldAddr 101 (Operand.tmp 85) 2, type := 0, pos := "sale.go:141", after := #[{ on := 13, ground := Ground.data }, { on := 0, ground := Ground.phase }, { on := 1, ground := Ground.phase }, { on := 2, ground := Ground.phase }, { on := 3, ground := Ground.phase }, { on := 4, ground := Ground.phase }, { on := 5, ground := Ground.phase }, { on := 6, ground := Ground.phase }, { on := 7, ground := Ground.phase }, { on := 8, ground := Ground.phase }, { on := 9, ground := Ground.phase }, { on := 10, ground := Ground.phase }, { on := 11, ground := Ground.phase }, { on := 12, ground := Ground.phase }], guard := none }) (v := ?_) rfl (by kernel_rfl) (by kernel_rfl) (by kernel_rfl) (fun _ _ _ h => h) (Or.inl ⟨by kernel_rfl, ?_⟩) hHeld ?_
              rotate_left
              · (intro w hSw; (try dsimp only at hSw); obtain ⟨⟨v1, hp⟩, hx2⟩ := hSw; have e0 := cell_of_block hp 0; have x0 := cell_of_block hx2 0; have x1 := cell_of_block hx2 1; have x2 := cell_of_block hx2 2; have x3 := cell_of_block hx2 3; have x4 := cell_of_block hx2 4; have x5 := cell_of_block hx2 5; have x6 := cell_of_block hx2 6; have x7 := cell_of_block hx2 7; go_simp); try with_reducible rfl
              try simp only [Act.put, List.setIfInBounds_toArray, List.set_cons_zero, List.set_cons_succ]
              refine wpAnyH_ready (rs := [15]) (by kernel_rfl) (by simp) (AllReadyH.cons (o := { dst := none, op := Op.store 67 (Operand.tmp 86) (Operand.tmp 84), type := 0, pos := "sale.go:141", after := #[{ on := 14, ground := Ground.data }, { on := 12, ground := Ground.data }, { on := 12, ground := Ground.chain }, { on := 0, ground := Ground.phase }, { on := 1, ground := Ground.phase }, { on := 2, ground := Ground.phase }, { on := 3, ground := Ground.phase }, { on := 4, ground := Ground.phase }, { on := 5, ground := Ground.phase }, { on := 6, ground := Ground.phase }, { on := 7, ground := Ground.phase }, { on := 8, ground := Ground.phase }, { on := 9, ground := Ground.phase }, { on := 10, ground := Ground.phase }, { on := 11, ground := Ground.phase }, { on := 12, ground := Ground.phase }], guard := none }) rfl (fun K hK => ?_) AllReadyH.nil)
              have hOld := hide hHeld
              clear hHeld
              go_simp
              skip
              (try go_wp2_with fail)
              refine hK.out _ _ (⟨⟨_, block_setCell HD3.out 2 _⟩, (block_setCell_other HPQ.out 2 _).trans X3.out⟩) (fun hHeld => ?_)
              clear hK K hOld
              try simp only [Act.put, List.setIfInBounds_toArray, List.set_cons_zero, List.set_cons_succ]
              refine wpAnyH_done (by kernel_rfl) ?_ _
              clear hHeld
              have HD4 := hide (block_setCell HD3.out 2 (.slice (some ⟨g3, o3 + (T1.length + 1 - keep.toNat) * 8, none⟩) (T1.length + 1 - (T1.length + 1 - keep.toNat)) (c4 - (T1.length + 1 - keep.toNat))))
              have X4 := hide ((block_setCell_other (v := .slice (some ⟨g3, o3 + (T1.length + 1 - keep.toNat) * 8, none⟩) (T1.length + 1 - (T1.length + 1 - keep.toNat)) (c4 - (T1.length + 1 - keep.toNat))) HPQ.out 2).trans X3.out)
              have K4 := hide (KeepsT.setCell (Ts := [101]) HD3.out (by decide) 2 (.slice (some ⟨g3, o3 + (T1.length + 1 - keep.toNat) * 8, none⟩) (T1.length + 1 - (T1.length + 1 - keep.toNat)) (c4 - (T1.length + 1 - keep.toNat))))
              have O4 := hide (OnlyL.setCell (qs := [p]) (a := w3) (q := p) (by simp) 2 (.slice (some ⟨g3, o3 + (T1.length + 1 - keep.toNat) * 8, none⟩) (T1.length + 1 - (T1.length + 1 - keep.toNat)) (c4 - (T1.length + 1 - keep.toNat))))
              have B4 := hide (BW3.out.setCell (p := ⟨p, 2, none⟩) HLOW.out (.slice (some ⟨g3, o3 + (T1.length + 1 - keep.toNat) * 8, none⟩) (T1.length + 1 - (T1.length + 1 - keep.toNat)) (c4 - (T1.length + 1 - keep.toNat))))
              generalize w3.setCell ⟨p, 2, none⟩ (.slice (some ⟨g3, o3 + (T1.length + 1 - keep.toNat) * 8, none⟩) (T1.length + 1 - (T1.length + 1 - keep.toNat)) (c4 - (T1.length + 1 - keep.toNat))) = w4 at *
              have RO4 := hide ((RO3.out.drop (T1.length + 1 - keep.toNat) (by omega)).keepsT K4.out (by decide))
              have LN4 := hide (show ∀ y ∈ T1, LnT w4 y.la y.t.L from fun y hy => (LN3.out y hy).keepsT K4.out (by decide))
              have L34 := hide (L33.out.keepsT K4.out (by decide))
              have KT4 := hide (KT3.out.add (K4.out.mono (by decide)) O4.out (fun r hr => .inl (by rw [List.mem_singleton.1 hr]; exact HQP.out)))
              clear HD3 X3 K4 O4 RO3 LN3 L33 BW3 KT3
              have e0 := cell_of_block X4.out 0
              go_wp2_with fail
              go_ret2
              exact HFIN.out _ _ _ _ a3 c3 HD4.out RO4.out LN4.out L34.out B4.out KT4.out
              
      · have HE := hide (show addE (T.map (·.t)) next x.t = takesE x.t (some s) by rw [HAE.out, if_pos ⟨hbk, hte⟩])
        generalize takesE x.t (some s) = te at *
        have HTE := hide hte
        have hte2 : (te == 0) = false := beq_eq_false_iff_ne.mpr hte
        clear HAE hbk
        go_wp2_with fail
        go_ret2
        exact HAN.out _ _ RG4.out HE.out HTE.out BW4.out KT4.out
theorem sladd_any (B p : Nat) (keep next : Int) (v : Value) (T : List TxA) (x : TxA) (hx : TxOk x.t) (w : World) (hin : LnT w x.la x.t.L) (h : RegAt w B p keep next v T) :
    Calls Try.prog 17 #[.pointer (some ⟨p, 0, none⟩), txV x] w (AddIs B p keep next T x.t w) :=
  (sladd_only (p :: v.ownBlock.toList) B p keep next v T x hx w hin h (by simp) (fun k hk => by simp [hk])).mono fun e w' ⟨v', T', h1, h2, h3, h4, h5⟩ => ⟨v', T', h1, h2, h3, h4, h5.kt⟩
end Go.Proofs.Ytbnbfnlfgmlcgaa
