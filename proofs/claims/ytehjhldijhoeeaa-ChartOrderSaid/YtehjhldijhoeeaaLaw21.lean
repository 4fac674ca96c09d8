/-
  In whatever order accounts are added, the chart is the same, if their codes are unlike (P21.1): for every list of codes and every turn.
-/
import Derived.Test.YtehjhldijhoeeaaChart5

namespace Go.Proofs.Ytehjhldijhoeeaa
set_option linter.unusedSimpArgs false
set_option linter.unusedVariables false
open Go.RowKit Go.WideShapes Go.ChangeShapes Go.ChangeAt Go.Deep
theorem nums_cells {w : World} {k : IntKind} {v : Value} {zs : List Int} (h : NumsAt w k v zs) : ∃ (a : Option Addr) (cap : Nat), v = .slice a zs.length cap ∧ zs.length ≤ cap ∧ ∀ i, i < zs.length → ∃ b off, a = some ⟨b, off, none⟩ ∧ b < w.heap.size ∧ w.cell? ⟨b, off + i, none⟩ = some (.int k (zs.getD i 0)) := by
  rcases h with ⟨rfl, rfl⟩ | ⟨b, off, cap, rfl, hc, hm, hp, hi⟩ | ⟨a, cap, rfl, rfl⟩
  · exact ⟨none, 0, rfl, Nat.le_refl _, fun i hi => by simp at hi⟩
  · exact ⟨some ⟨b, off, none⟩, cap, rfl, hc, fun i hil => ⟨b, off, rfl, World.block_lt_of_cell? w _ (hi i hil), hi i hil⟩⟩
  · exact ⟨some a, cap, rfl, Nat.zero_le _, fun i hi => by simp at hi⟩
def InNums (w : World) (k : IntKind) (a : Option Addr) (zs : List Int) (n : Nat) : Prop := ∀ i, i < n → ∃ b off, a = some ⟨b, off, none⟩ ∧ b < w.heap.size ∧ w.cell? ⟨b, off + i, none⟩ = some (.int k (zs.getD i 0))
theorem InNums.below {w w' : World} {k : IntKind} {a : Option Addr} {zs : List Int} {n : Nat} (h : InNums w k a zs n) (hb : Below w.heap.size w w') : InNums w' k a zs n := fun i hi => by
  obtain ⟨b, off, h1, h2, h3⟩ := h i hi
  exact ⟨b, off, h1, Nat.lt_of_lt_of_le h2 hb.size, cell_keep h3 h2 hb⟩
theorem Keyed_u16 : Go.Maps.Keyed Try.prog 63 := Go.Maps.int_keyed Try.underlying63
theorem wf16 {a : Int} (h : 0 ≤ a ∧ a ≤ 65535) : (Lit.int .u16 a).wf = true := by
  obtain ⟨h2, h3⟩ := h
  simp [Lit.wf, IntKind.min, IntKind.max, IntKind.signed, IntKind.bits]
  exact ⟨h2, h3⟩
theorem key_u16 {a : Int} (h : 0 ≤ a ∧ a ≤ 65535) : keyOf Try.prog 63 (.int .u16 a) = some (.int .u16 a) := Go.Maps.keyOf_int_mk Try.underlying63 (wf16 h)
theorem zero_bool (w : World) : (zeroValue 4).run Try.prog w = .ok (.bool false) w := by kernel_rfl
/-- what was seen -/
def SeenF (N : List Int) (f : Lit → Option Value) : Prop := ∀ x : Int, 0 ≤ x ∧ x ≤ 65535 → f (.int .u16 x) = if x ∈ N then some (.bool true) else none
structure SeenIs (w : World) (sb : Nat) (N : List Int) : Prop where
  map : ∃ n c f, MapIs w Try.prog 63 sb n c f ∧ SeenF N f ∧ n ≤ N.length
theorem SeenIs.kept {w w' : World} {sb : Nat} {N : List Int} (h : SeenIs w sb N) (hb : w'.heap[sb]? = w.heap[sb]?) : SeenIs w' sb N := by
  obtain ⟨n, c, f, h1, h2⟩ := h.map
  exact ⟨n, c, f, h1.kept hb, h2⟩
theorem SeenIs.lt {w : World} {sb : Nat} {N : List Int} (h : SeenIs w sb N) : sb < w.heap.size := by
  obtain ⟨n, c, f, h1, h2⟩ := h.map
  exact h1.lt
theorem SeenIs.noCells {w : World} {sb : Nat} {N : List Int} (h : SeenIs w sb N) (d : Array Value) (t : TypeId) (fz : Nat × Nat) : w.heap[sb]? ≠ some (.cells d t fz) := by
  obtain ⟨n, c, f, h1, h2⟩ := h.map
  exact map_noCells h1 _ _ _
theorem SeenIs.look {w : World} {sb : Nat} {N : List Int} (h : SeenIs w sb N) {x : Int} (hx : 0 ≤ x ∧ x ≤ 65535) : (Instr.lookup 62 (.map (some sb)) (.int .u16 x) false).run Try.prog w = .ok (.bool (decide (x ∈ N))) w := by
  obtain ⟨n, c, f, hM, hF, -⟩ := h.map
  have h1 := hM.look Keyed_u16 Try.underlying62 (zero_bool w) (key_u16 hx) (by trivial)
  rw [hF x hx] at h1
  rw [h1]
  by_cases e : x ∈ N
  · rw [if_pos e, decide_eq_true e]; rfl
  · rw [if_neg e, decide_eq_false e]; rfl
theorem seen_next {N : List Int} {f : Lit → Option Value} (h : SeenF N f) (x : Int) : SeenF (N ++ [x]) (fun l => if l.sameKey (.int .u16 x) = true then some (.bool true) else f l) := fun y hy => by
  show (if (Lit.int .u16 y).sameKey (.int .u16 x) = true then _ else _) = _
  have hsk : (Lit.int .u16 y).sameKey (.int .u16 x) = true ↔ y = x := by simp [Lit.sameKey]
  by_cases e : y = x
  · rw [if_pos (hsk.2 e), if_pos (by simp [e])]
  · rw [if_neg (fun h => e (hsk.1 h)), h y hy]
    by_cases e2 : y ∈ N
    · rw [if_pos e2, if_pos (by simp [e2])]
    · rw [if_neg e2, if_neg (by simp [e2, e])]
structure NGood (N : List Int) (k : Nat) : Prop where
  nd : N.Nodup
  range : ∀ x ∈ N, 1 ≤ x ∧ x ≤ 65535
  len : N.length ≤ k
/-- both charts -/
structure TwoIs (W : World) (pa ba pb bb : Nat) (M M' : List AcM) : Prop where
  a : ChartIs W pa ba M
  b : ChartIs W pb bb M'
  ne : pa ≠ bb ∧ pb ≠ ba ∧ ba ≠ bb
theorem TwoIs.kept {W W' : World} {pa ba pb bb : Nat} {M M' : List AcM} (h : TwoIs W pa ba pb bb M M') (hb : Below W.heap.size W W') : TwoIs W' pa ba pb bb M M' := ⟨h.a.below hb, h.b.below hb, h.ne⟩
theorem TwoIs.drewN {W : World} {pa ba pb bb : Nat} {M M' : List AcM} (h : TwoIs W pa ba pb bb M M') (n : Nat) : TwoIs (W.drewN n) pa ba pb bb M M' := ⟨h.a.drewN n, h.b.drewN n, h.ne⟩
theorem TwoIs.grown {W W' : World} {pa ba pb bb : Nat} {M M' : List AcM} {B e m n : Nat} {v : Value} {xs : List Value} (h : TwoIs W pa ba pb bb M M') (ho : W.ownsRow B e m v n xs) (he : 69 ≠ e) (hg : W.grownBy W' v.ownBlock) : TwoIs W' pa ba pb bb M M' :=
  ⟨h.a.kept ((grown_stays ho hg h.a.head he).trans h.a.head.symm) (grown_other ho hg h.a.lt.1 h.a.noCells), h.b.kept ((grown_stays ho hg h.b.head he).trans h.b.head.symm) (grown_other ho hg h.b.lt.1 h.b.noCells), h.ne⟩
theorem TwoIs.map {W W' : World} {pa ba pb bb q : Nat} {M M' : List AcM} (h : TwoIs W pa ba pb bb M M') (ho : Only q W W') (hm : ∀ d t fz, W.heap[q]? ≠ some (.cells d t fz)) (h1 : ba ≠ q) (h2 : bb ≠ q) : TwoIs W' pa ba pb bb M M' :=
  ⟨h.a.only ho (fun e => hm _ _ _ (e ▸ h.a.head)) h1, h.b.only ho (fun e => hm _ _ _ (e ▸ h.b.head)) h2, h.ne⟩
theorem below_drewN {B : Nat} {a b : World} (h : Below B a b) (n : Nat) : Below B a (b.drewN n) := ⟨h.os, h.tape, h.output, h.size, h.block⟩
theorem AcsIn.below {w w' : World} {a : Option Addr} {M : List AcM} (h : AcsIn w a M) (hb : Below w.heap.size w w') : AcsIn w' a M := fun i hi => by
  obtain ⟨b, h1, h2, c0, c1, c2⟩ := h i hi
  exact ⟨b, h1, Nat.lt_of_lt_of_le h2 hb.size, cell_keep c0 h2 hb, cell_keep c1 h2 hb, cell_keep c2 h2 hb⟩
theorem one_less (k j : Nat) (hj : k = j + 1) (hk : k ≤ 100) : decide ((k : Int) > 0) = true ∧ (k : Int) - 1 = (j : Int) ∧ IntKind.i64.wrap ((k : Int) - 1) = (j : Int) ∧ wrap64 (j : Int) = (j : Int) ∧ IntKind.i64.wrap (j : Int) = (j : Int) := by
  refine ⟨decide_eq_true (by omega), by omega, ?_, ?_, ?_⟩
  · rw [IntKind.wrap_i64]; omega
  · unfold wrap64; omega
  · rw [IntKind.wrap_i64]; omega
theorem sum_facts (k tn m r : Nat) (hk : k ≤ 40) (ht : tn ≤ 255) (hm : 0 < m) (hr : (k + tn) % m = r) : ¬ (m : Int) = 0 ∧ wrap64 (tn : Int) = (tn : Int) ∧ wrap64 ((k : Int) + (tn : Int)) = (k : Int) + (tn : Int) ∧ ((k : Int) + (tn : Int)).tmod (m : Int) = (r : Int) ∧ IntKind.i64.wrap (tn : Int) = (tn : Int) ∧ IntKind.i64.wrap ((k : Int) + (tn : Int)) = (k : Int) + (tn : Int) := by
  have hri : ((k : Int) + (tn : Int)) % (m : Int) = (r : Int) := by rw [← hr, Int.natCast_emod, Int.natCast_add]
  refine ⟨by omega, ?_, ?_, (Int.tmod_eq_emod_of_nonneg (Int.add_nonneg (Int.natCast_nonneg k) (Int.natCast_nonneg tn))).trans hri, ?_, ?_⟩
  · unfold wrap64; clear hri hr; omega
  · unfold wrap64; clear hri hr; omega
  · rw [IntKind.wrap_i64]; clear hri hr; omega
  · rw [IntKind.wrap_i64]; clear hri hr; omega
theorem add_at (p bm : Nat) {L : List Int} (hn : L.Nodup) (hr : ∀ x ∈ L, 1 ≤ x ∧ x ≤ 65535) (hl : L.length ≤ 40) {k : Nat} (hk : k < L.length) (W : World) (hW : ChartIs W p bm (allA (L.take k))) :
    Calls Try.prog 13 #[.pointer (some ⟨p, 0, none⟩), .agg #[.int .i64 (L.getD k 0), .int .u8 3, .string ⟨#[110]⟩]] W fun e w' => e = .returned (.int .i64 0) ∧ ChartIs w' p bm (allA (L.take (k + 1))) ∧ Only bm W w' := by
  have hg : L.getD k 0 = L[k] := by simp [List.getD, hk]
  have ht : L.take (k + 1) = L.take k ++ [L.getD k 0] := by rw [List.take_succ_eq_append_getElem hk, hg]
  have hx := hr (L.getD k 0) (by rw [hg]; exact List.getElem_mem _)
  have hnm : L.getD k 0 ∉ L.take k := fun hm => by
    obtain ⟨j, hj, e⟩ := List.getElem_of_mem hm
    rw [List.length_take] at hj
    rw [List.getElem_take, hg] at e
    exact absurd e (List.pairwise_iff_getElem.1 hn j k (by omega) (by omega) (by omega))
  have h := chadd_any p bm (allA (L.take k)) (nA (L.getD k 0)) (nA_ok hx) W hW
  obtain ⟨h1, h2⟩ := all_adds (all_take hn k (by omega)) hnm hx (by rw [List.length_take]; omega)
  rw [h1, h2, ← ht] at h
  exact h
set_option maxRecDepth 100000 in
set_option maxHeartbeats 1000000 in
theorem chartOrder_walk (v : Value) (turn : Int) (t0 : 0 ≤ turn) (t1 : turn ≤ 255) (w : World) (hv : ∃ zs : List Int, NumsAt w .u16 v zs ∧ (∀ z ∈ zs, (Lit.int .u16 z).wf = true) ∧ zs.length ≤ maxLen) :
    Calls Try.prog 5 #[v, .int .u8 turn] w fun e w' => e = .returned (.bool true) ∧ Below w.heap.size w w' := by
  obtain ⟨tn, rfl⟩ : ∃ tn : Nat, (tn : Int) = turn := ⟨turn.toNat, by omega⟩
  obtain ⟨zs, hn, hwf, hlen⟩ := hv
  obtain ⟨a, cap, rfl, hcap, hat⟩ := nums_cells hn
  obtain ⟨i0, hi, hz0, hz1, hz2⟩ := info_parts (show (Try.prog.info? 63).map (fun i => (i.zero, i.size, i.bytes)) = some (some (.int .u16 0), 1, 2) by kernel_rfl)
  have HI := hide hi
  have HZ0 := hide hz0
  have HZ1 := hide hz1
  have HZ2 := hide hz2
  obtain ⟨n, hn'⟩ : ∃ n : Nat, min zs.length 40 = n := ⟨_, rfl⟩
  have hmF : (if (40 : Int) < (zs.length : Int) then (40 : Int) else (zs.length : Int)) = (n : Int) := by split <;> omega
  have hmI : min (zs.length : Int) 40 = (n : Int) := by omega
  have hn40 : n ≤ 40 := by omega
  have hnl : n ≤ zs.length := by omega
  have hcI : (n : Int) ≤ (cap : Int) := by omega
  have HIN := hide (show InNums w .u16 a zs n from fun i hi => hat i (by omega))
  have HWF := hide (fun (i : Nat) (h : i < zs.length) => (wf_u16 (hwf (zs.getD i 0) (by simp [List.getD, h]))))
  have HT := hide t1
  clear hi hz0 hz1 hz2 hn hwf hlen hn' hat t0 t1
  have hmm := @run_makeMap Try.prog
  go_enter Try.func5, Try.ntmps5
  go_wp2_with fail
  refine (chNew _).mono ?_
  rintro e w1 ⟨pa, ba, rfl, hc, hl1, hl2, hb⟩
  have CA := hide hc
  have B1 := hide hb
  have HA1 := hide (And.intro hl1 hl2)
  clear hc hb hl1 hl2
  go_wp2_with fail
  refine (chNew _).mono ?_
  rintro e w2 ⟨pb, bb, rfl, hc, hl1, hl2, hb⟩
  have T2 := hide (show TwoIs w2 pa ba pb bb [] [] from ⟨CA.out.below hb, hc, by have := CA.out.lt; omega, by have := CA.out.lt; omega, by have := CA.out.lt; omega⟩)
  have B2 := hide (B1.out.trans (hb.mono B1.out.size))
  have HB1 := hide (show w.heap.size ≤ bb ∧ w.heap.size ≤ pb from by have := B1.out.size; omega)
  clear hc hb hl1 hl2 CA B1
  go_upto_region 5 with (fail)
  have hal := (Below.refl w2.heap.size w2).alloc (Nat.le_refl _) (.map #[] 0)
  have T3 := hide (T2.out.kept hal)
  have B3 := hide (B2.out.trans (hal.mono B2.out.size))
  have S3 := hide (show SeenIs (w2.alloc (.map #[] 0)) w2.heap.size [] from ⟨0, 0, _, MapIs.made w2 Try.prog 63, (fun x _ => by simp), Nat.le_refl _⟩)
  have HSB := hide (show ba ≠ w2.heap.size ∧ bb ≠ w2.heap.size ∧ w.heap.size ≤ w2.heap.size from by have := T2.out.a.lt; have := T2.out.b.lt; have := B2.out.size; omega)
  clear hal T2 B2 hmm
  generalize w2.alloc (.map #[] 0) = w3 at *
  generalize w2.heap.size = sb at *
  go_wp2_with fail
  go_loopw [8, 27] (fun l i W => ∃ (k : Nat) (N : List Int) (g : Option Addr) (c : Nat), k ≤ n ∧ l = .slice g N.length c ∧ i = .int .i64 k ∧ NGood N k ∧ W.ownsRow w.heap.size 63 1 (.slice g N.length c) N.length (N.flatMap fun x => [Value.int .u16 x]) ∧ SeenIs W sb N ∧ TwoIs W pa ba pb bb [] [] ∧ Below w.heap.size w W) (fun _ i _ => n - (Go.RowKit.intOf i).toNat)
  case atStart => exact ⟨0, [], none, 0, by omega, rfl, rfl, ⟨List.nodup_nil, (fun x hx => by cases hx), Nat.le_refl _⟩, World.ownsRow_nil _ _ _ _, S3.out, T3.out, B3.out⟩
  case round =>
    obtain ⟨k, N, g, c, hk, rfl, rfl, hN, ho, hs, ht, hb⟩ := hrel
    have NG := hide hN
    have ON := hide ho
    have SN := hide hs
    have TN := hide ht
    have BN := hide hb
    clear hN ho hs ht hb S3 T3 B3
    by_cases hlt : k < n
    · obtain ⟨b, off, rfl, hbl, hcell⟩ := (HIN.out.below BN.out) k hlt
      have hx := HWF.out k (by omega)
      generalize zs.getD k 0 = x at *
      obtain ⟨hx0, hx1⟩ := hx
      have hlk := SN.out.look ⟨hx0, hx1⟩
      by_cases hgo : 0 < x ∧ x ∉ N
      · obtain ⟨hp, hnm⟩ := hgo
        rw [decide_eq_false hnm] at hlk
        have g1 : decide (x > 0) = true := decide_eq_true hp
        have HNM := hide hnm
        clear hnm
        obtain ⟨mn, mc, mf, hM, hF, hmn⟩ := SN.out.map
        have HM := hide hM
        have HF := hide hF
        have HMN := hide hmn
        have hm40 : mn < 100 := by have := NG.out.len; omega
        clear hM hF hmn
        go_upto_region 9 with (fail)
        go_upto_region 10 with (refine wpList_mapStore wr rfl _ _ _ 62 rfl 63 4 Keyed_u16 Try.underlying62 sb mn mc mf rfl HM.out (by unfold maxLen; omega) (.int .u16 x) (.bool true) (.int .u16 x) rfl rfl (key_u16 ⟨hx0, hx1⟩) (by trivial) ?_; intro w4 hm4 hg4)
        have O4 := hide (only_of_grown hg4)
        have S4 := hide (show SeenIs w4 sb (N ++ [x]) from ⟨_, _, _, hm4, seen_next HF.out x, by rw [List.length_append]; have := HMN.out; show mn + 1 ≤ N.length + 1; omega⟩)
        have T4 := hide (TN.out.map O4.out SN.out.noCells HSB.out.1 HSB.out.2.1)
        have ON4 := hide (owns_only ON.out O4.out SN.out.noCells)
        have B4 := hide (O4.out.below BN.out HSB.out.2.2 BN.out.size)
        clear hm4 hg4 HM HF HMN SN TN ON BN O4 hlk hcell g1
        have hal := (Below.refl w4.heap.size w4).alloc (Nat.le_refl _) (.cells #[.int .u16 x] 63)
        have XN := hide (heap_new w4 (.cells #[.int .u16 x] 63))
        have S5 := hide (S4.out.kept (hal.block _ S4.out.lt))
        have T5 := hide (T4.out.kept hal)
        have ON5 := hide (owns_below ON4.out hal)
        have B5 := hide (B4.out.trans (hal.mono B4.out.size))
        have hw2 : w.heap.size ≤ (w4.alloc (.cells #[.int .u16 x] 63)).heap.size := B5.out.size
        have hN40 : N.length < 100 := by have := NG.out.len; omega
        clear hal S4 T4 ON4 B4
        go_wp2_with (at_builtin; refine wpList_append_own2 _ rfl _ _ 61 rfl w.heap.size 63 i0 (.int .u16 0) 1 2 Try.underlying61 HI.out HZ0.out HZ1.out HZ2.out rfl (by decide) (.slice g N.length c) N.length (N.flatMap fun x => [Value.int .u16 x]) rfl ON5.out ⟨w4.heap.size, 0, none⟩ 1 1 (by decide) [Value.int .u16 x] rfl rfl (cells_new XN.out) (by simp [Value.oneCell']) (by unfold maxLen; omega) (by omega) hw2 ?_; intro g3 c3' w6 ho hgr hnil; have ON6 := hide ho; have S6 := hide (S5.out.kept (grown_other ON5.out hgr S5.out.lt S5.out.noCells)); have T6 := hide (T5.out.grown ON5.out (by decide) hgr); have B6 := hide (B5.out.grown hgr B5.out.size (fun jj hj => (ON5.out.lt jj hj).1)); clear ho hgr hnil)
        go_roundw
        case rel =>
          have hl : (N ++ [x]).length = N.length + 1 := by simp
          refine ⟨k + 1, N ++ [x], _, _, by omega, by rw [hl], by go_num, ⟨?_, ?_, ?_⟩, ?_, S6.out, T6.out, B6.out⟩
          · exact List.nodup_append.2 ⟨NG.out.nd, by simp, fun a ha b hb => by simp at hb; subst hb; exact fun e => HNM.out (e ▸ ha)⟩
          · intro y hy
            rcases List.mem_append.1 hy with hy | hy
            · exact NG.out.range y hy
            · simp at hy; subst hy; omega
          · rw [hl]; have := NG.out.len; omega
          · rw [hl, List.flatMap_append]; simpa using ON6.out
        case measure => simp [Go.RowKit.intOf]; omega
      · have hcase : x = 0 ∨ (0 < x ∧ x ∈ N) := by
          by_cases h0 : 0 < x
          · exact Or.inr ⟨h0, by by_cases hm : x ∈ N; exact hm; exact absurd ⟨h0, hm⟩ hgo⟩
          · exact Or.inl (by omega)
        clear hgo
        rcases hcase with h0 | ⟨h0, hm⟩
        · have g1 : decide (x > 0) = false := decide_eq_false (by omega)
          clear h0 hlk
          go_wp2_with fail
          go_roundw
          case rel => exact ⟨k + 1, N, g, c, by omega, rfl, by go_num, ⟨NG.out.nd, NG.out.range, by have := NG.out.len; omega⟩, ON.out, SN.out, TN.out, BN.out⟩
          case measure => simp [Go.RowKit.intOf]; omega
        · have g1 : decide (x > 0) = true := decide_eq_true h0
          rw [decide_eq_true hm] at hlk
          clear hm
          go_wp2_with fail
          go_roundw
          case rel => exact ⟨k + 1, N, g, c, by omega, rfl, by go_num, ⟨NG.out.nd, NG.out.range, by have := NG.out.len; omega⟩, ON.out, SN.out, TN.out, BN.out⟩
          case measure => simp [Go.RowKit.intOf]; omega
    · obtain rfl : n = k := by omega
      clear hlt SN HWF HIN
      go_wp2_with fail
      obtain ⟨L2, hL2⟩ : ∃ L2, L2 = rotN N tn N.length := ⟨_, rfl⟩
      have hl2 : L2.length = N.length := by rw [hL2, rotN_len]
      have hperm : L2.Perm N := by rw [hL2]; exact rotN_perm N tn
      have HG1 := hide (fun (k : Nat) (h : k < N.length) W hW => add_at pa ba NG.out.nd NG.out.range (by have := NG.out.len; omega) h W hW)
      have HG2 := hide (fun (k : Nat) (h : k < N.length) W hW => add_at pb bb (L := L2) (hperm.nodup_iff.2 NG.out.nd) (fun x hx => NG.out.range x (hperm.mem_iff.1 hx)) (by rw [hl2]; have := NG.out.len; omega) (by rw [hl2]; exact h) W hW)
      have HL2 := hide (fun (k : Nat) (h : k < N.length) => show L2.getD k 0 = N.getD ((k + tn) % N.length) 0 from by rw [hL2]; simp [rotN, List.getD, h])
      have HEQ := hide (show allA (L2.take N.length) = allA N from by
        rw [← hl2, List.take_length]
        have hA := all_take (hperm.nodup_iff.2 NG.out.nd) L2.length (Nat.le_refl _)
        have hB := all_take NG.out.nd N.length (Nat.le_refl _)
        rw [List.take_length] at hA hB
        exact all_eq hA hB fun x => hperm.mem_iff)
      have HAL := hide (show AllIs N from by have hB := all_take NG.out.nd N.length (Nat.le_refl _); rwa [List.take_length] at hB)
      have HRG := hide NG.out.range
      have HNL := hide (show N.length ≤ 40 from by have := NG.out.len; omega)
      clear hL2 hl2 hperm hk NG
      go_loopw [48] (fun i W => ∃ k : Nat, k ≤ N.length ∧ i = .int .i64 k ∧ TwoIs W pa ba pb bb (allA (N.take k)) (allA (L2.take k)) ∧ W.ownsRow w.heap.size 63 1 (.slice g N.length c) N.length (N.flatMap fun x => [Value.int .u16 x]) ∧ Below w.heap.size w W) (fun i _ => N.length - (Go.RowKit.intOf i).toNat)
      case atStart => exact ⟨0, by omega, rfl, TN.out, ON.out, BN.out⟩
      case round =>
        obtain ⟨k, hk, rfl, ht, ho, hb⟩ := hrel
        have TK := hide ht
        have OK := hide ho
        have BK := hide hb
        clear ht ho hb TN ON BN
        by_cases hlt : k < N.length
        · have HLT := hide hlt
          obtain ⟨r, hr⟩ : ∃ r, (k + tn) % N.length = r := ⟨_, rfl⟩
          have hrn : r < N.length := hr ▸ Nat.mod_lt _ (by omega)
          have hkt := sum_facts k tn N.length r (by have := HNL.out; omega) (by have := HT.out; omega) (by omega) hr
          obtain ⟨hn0, hz8, hz9, hrt, hv8, hv9⟩ := hkt
          have hnil : ¬ N = [] := fun e => by rw [e] at hlt; exact Nat.not_lt_zero _ hlt
          obtain ⟨gb, rfl, -, hgl, hck⟩ := owns_rows (fun x => [Value.int .u16 x]) (fun _ => rfl) 0 OK.out k hlt
          obtain ⟨gb', hgg, -, -, hcr⟩ := owns_rows (fun x => [Value.int .u16 x]) (fun _ => rfl) 0 OK.out r hrn
          simp only [Option.some.injEq, Addr.mk.injEq, and_true] at hgg
          subst hgg
          have c1 : wr.cell? ⟨gb, k, none⟩ = some (.int .u16 (N.getD k 0)) := by have := hck 0 (by decide); rw [Nat.mul_one, Nat.add_zero] at this; exact this
          have c2 : wr.cell? ⟨gb, r, none⟩ = some (.int .u16 (N.getD r 0)) := by have := hcr 0 (by decide); rw [Nat.mul_one, Nat.add_zero] at this; exact this
          have hx1 := HRG.out (N.getD k 0) (by simp [List.getD, hlt])
          have hx2 := HRG.out (N.getD r 0) (by simp [List.getD, hrn])
          have HD1 := hide (HG1.out k hlt)
          have HD2 := hide (HG2.out k hlt)
          rw [HL2.out k hlt, hr] at HD2
          generalize N.getD k 0 = x at *
          generalize N.getD r 0 = y at *
          have hw1 : wrap64 x = x := by unfold wrap64; omega
          have hw2 : wrap64 y = y := by unfold wrap64; omega
          have HX := hide (And.intro hx1 hx2)
          clear hr hck hcr hx1 hx2 hgl
          go_upto_region 15 with (fail)
          go_cut [12, 13] from 51 to 64 (fun s12 s13 W => s12 = .int .u16 x ∧ s13 = .int .u16 y ∧ TwoIs W pa ba pb bb (allA (N.take k)) (allA (L2.take k)) ∧ W.ownsRow w.heap.size 63 1 (.slice (some ⟨gb, 0, none⟩) N.length c) N.length (N.flatMap fun x => [Value.int .u16 x]) ∧ Below w.heap.size w W)
          case first =>
            clear HD1 HD2 HG1 HG2 HL2 HEQ HAL HRG HX
            refine wp_region_held_drew (S := (fun W => (W.cell? ⟨gb, k, none⟩ = some (.int .u16 x) ∧ W.cell? ⟨gb, r, none⟩ = some (.int .u16 y)) ∧ TwoIs W pa ba pb bb (allA (N.take k)) (allA (L2.take k)) ∧ W.ownsRow w.heap.size 63 1 (.slice (some ⟨gb, 0, none⟩) N.length c) N.length (N.flatMap fun x => [Value.int .u16 x]) ∧ Below w.heap.size w W)) (by kernel_rfl) (⟨⟨c1, c2⟩, TK.out.drewN 1, OK.out, BK.out.drew⟩) (fun hHeld => ?_)
            refine wpAnyH_take (i := 0) (oi := { dst := some 51, op := Op.move (Operand.tmp 8), type := 61, pos := "law.go:117", after := #[], guard := none }) (v := ?_) rfl (by kernel_rfl) (by kernel_rfl) (by kernel_rfl) (fun _ _ _ h => h) (Or.inl ⟨by kernel_rfl, ?_⟩) hHeld ?_
            rotate_left
            · (intro w hSw; (try dsimp only at hSw); obtain ⟨⟨c1, c2⟩, -⟩ := hSw; go_simp); try with_reducible rfl
            try simp only [Act.put, List.setIfInBounds_toArray, List.set_cons_zero, List.set_cons_succ]
            refine wpAnyH_take (i := 1) (oi := { dst := some 52, op := Op.move (Operand.tmp 11), type := 3, pos := "law.go:117", after := #[], guard := none }) (v := ?_) rfl (by kernel_rfl) (by kernel_rfl) (by kernel_rfl) (fun _ _ _ h => h) (Or.inl ⟨by kernel_rfl, ?_⟩) hHeld ?_
            rotate_left
            · (intro w hSw; (try dsimp only at hSw); obtain ⟨⟨c1, c2⟩, -⟩ := hSw; go_simp); try with_reducible rfl
            try simp only [Act.put, List.setIfInBounds_toArray, List.set_cons_zero, List.set_cons_succ]
            refine wpAnyH_take (i := 2) (oi := { dst := some 53, op := Op.indexAddr 61 (Operand.tmp 51) (Operand.tmp 52), type := 0, pos := "law.go:117", after := #[{ on := 0, ground := Ground.data }, { on := 1, ground := Ground.data }], guard := none }) (v := ?_) rfl (by kernel_rfl) (by kernel_rfl) (by kernel_rfl) (fun _ _ _ h => h) (Or.inl ⟨by kernel_rfl, ?_⟩) hHeld ?_
            rotate_left
            · (intro w hSw; (try dsimp only at hSw); obtain ⟨⟨c1, c2⟩, -⟩ := hSw; go_simp); try with_reducible rfl
            try simp only [Act.put, List.setIfInBounds_toArray, List.set_cons_zero, List.set_cons_succ]
            refine wpAnyH_take (i := 3) (oi := { dst := some 54, op := Op.load 63 (Operand.tmp 53), type := 63, pos := "law.go:117", after := #[{ on := 2, ground := Ground.data }], guard := none }) (v := ?_) rfl (by kernel_rfl) (by kernel_rfl) (by kernel_rfl) (fun _ _ _ h => h) (Or.inl ⟨by kernel_rfl, ?_⟩) hHeld ?_
            rotate_left
            · (intro w hSw; (try dsimp only at hSw); obtain ⟨⟨c1, c2⟩, -⟩ := hSw; go_simp); try with_reducible rfl
            try simp only [Act.put, List.setIfInBounds_toArray, List.set_cons_zero, List.set_cons_succ]
            refine wpAnyH_take (i := 4) (oi := { dst := some 55, op := Op.move (Operand.tmp 8), type := 61, pos := "law.go:117", after := #[{ on := 14, ground := Ground.gcOnly Departure.lateStores }], guard := none }) (v := ?_) rfl (by kernel_rfl) (by kernel_rfl) (by kernel_rfl) (fun _ _ _ h => h) (Or.inl ⟨by kernel_rfl, ?_⟩) hHeld ?_
            rotate_left
            · (intro w hSw; (try dsimp only at hSw); obtain ⟨⟨c1, c2⟩, -⟩ := hSw; go_simp); try with_reducible rfl
            try simp only [Act.put, List.setIfInBounds_toArray, List.set_cons_zero, List.set_cons_succ]
            refine wpAnyH_take (i := 5) (oi := { dst := some 56, op := Op.move (Operand.tmp 11), type := 3, pos := "law.go:117", after := #[{ on := 14, ground := Ground.gcOnly Departure.lateStores }], guard := none }) (v := ?_) rfl (by kernel_rfl) (by kernel_rfl) (by kernel_rfl) (fun _ _ _ h => h) (Or.inl ⟨by kernel_rfl, ?_⟩) hHeld ?_
            rotate_left
            · (intro w hSw; (try dsimp only at hSw); obtain ⟨⟨c1, c2⟩, -⟩ := hSw; go_simp); try with_reducible rfl
            try simp only [Act.put, List.setIfInBounds_toArray, List.set_cons_zero, List.set_cons_succ]
            refine wpAnyH_take (i := 6) (oi := { dst := some 57, op := Op.move (Operand.tmp 1), type := 5, pos := "law.go:117", after := #[{ on := 14, ground := Ground.gcOnly Departure.lateStores }], guard := none }) (v := ?_) rfl (by kernel_rfl) (by kernel_rfl) (by kernel_rfl) (fun _ _ _ h => h) (Or.inl ⟨by kernel_rfl, ?_⟩) hHeld ?_
            rotate_left
            · (intro w hSw; (try dsimp only at hSw); obtain ⟨⟨c1, c2⟩, -⟩ := hSw; go_simp); try with_reducible rfl
            try simp only [Act.put, List.setIfInBounds_toArray, List.set_cons_zero, List.set_cons_succ]
            refine wpAnyH_take (i := 7) (oi := { dst := some 58, op := Op.convert 5 3 (Operand.tmp 57), type := 3, pos := "law.go:117", after := #[{ on := 6, ground := Ground.data }, { on := 14, ground := Ground.gcOnly Departure.lateStores }], guard := none }) (v := ?_) rfl (by kernel_rfl) (by kernel_rfl) (by kernel_rfl) (fun _ _ _ h => h) (Or.inl ⟨by kernel_rfl, ?_⟩) hHeld ?_
            rotate_left
            · (intro w hSw; (try dsimp only at hSw); obtain ⟨⟨c1, c2⟩, -⟩ := hSw; go_simp); try with_reducible rfl
            try simp only [Act.put, List.setIfInBounds_toArray, List.set_cons_zero, List.set_cons_succ]
            refine wpAnyH_take (i := 8) (oi := { dst := some 59, op := Op.binOp BinOp.add 3 (Operand.tmp 56) (Operand.tmp 58) 3, type := 3, pos := "law.go:117", after := #[{ on := 5, ground := Ground.data }, { on := 7, ground := Ground.data }, { on := 14, ground := Ground.gcOnly Departure.lateStores }], guard := none }) (v := ?_) rfl (by kernel_rfl) (by kernel_rfl) (by kernel_rfl) (fun _ _ _ h => h) (Or.inl ⟨by kernel_rfl, ?_⟩) hHeld ?_
            rotate_left
            · (intro w hSw; (try dsimp only at hSw); obtain ⟨⟨c1, c2⟩, -⟩ := hSw; go_simp); try with_reducible rfl
            try simp only [Act.put, List.setIfInBounds_toArray, List.set_cons_zero, List.set_cons_succ]
            refine wpAnyH_take (i := 9) (oi := { dst := some 60, op := Op.move (Operand.tmp 8), type := 61, pos := "law.go:117", after := #[], guard := none }) (v := ?_) rfl (by kernel_rfl) (by kernel_rfl) (by kernel_rfl) (fun _ _ _ h => h) (Or.inl ⟨by kernel_rfl, ?_⟩) hHeld ?_
            rotate_left
            · (intro w hSw; (try dsimp only at hSw); obtain ⟨⟨c1, c2⟩, -⟩ := hSw; go_simp); try with_reducible rfl
            try simp only [Act.put, List.setIfInBounds_toArray, List.set_cons_zero, List.set_cons_succ]
            refine wpAnyH_take (i := 10) (oi := { dst := some 61, op := Op.call { callee := Callee.builtin Builtin.len, args := #[Operand.tmp 60], argTypes := #[61] }, type := 3, pos := "law.go:117", after := #[{ on := 9, ground := Ground.data }], guard := none }) (v := ?_) rfl (by kernel_rfl) (by kernel_rfl) (by kernel_rfl) (fun _ _ _ h => h) (Or.inl ⟨by kernel_rfl, ?_⟩) hHeld ?_
            rotate_left
            · (intro w hSw; (try dsimp only at hSw); obtain ⟨⟨c1, c2⟩, -⟩ := hSw; go_simp); try with_reducible rfl
            try simp only [Act.put, List.setIfInBounds_toArray, List.set_cons_zero, List.set_cons_succ]
            refine wpAnyH_take (i := 11) (oi := { dst := some 62, op := Op.binOp BinOp.rem 3 (Operand.tmp 59) (Operand.tmp 61) 3, type := 3, pos := "law.go:117", after := #[{ on := 8, ground := Ground.data }, { on := 10, ground := Ground.data }, { on := 14, ground := Ground.gcOnly Departure.lateStores }], guard := none }) (v := ?_) rfl (by kernel_rfl) (by kernel_rfl) (by kernel_rfl) (fun _ _ _ h => h) (Or.inl ⟨by kernel_rfl, ?_⟩) hHeld ?_
            rotate_left
            · (intro w hSw; (try dsimp only at hSw); obtain ⟨⟨c1, c2⟩, -⟩ := hSw; go_simp); try with_reducible rfl
            try simp only [Act.put, List.setIfInBounds_toArray, List.set_cons_zero, List.set_cons_succ]
            refine wpAnyH_take (i := 12) (oi := { dst := some 63, op := Op.indexAddr 61 (Operand.tmp 55) (Operand.tmp 62), type := 0, pos := "law.go:117", after := #[{ on := 4, ground := Ground.data }, { on := 11, ground := Ground.data }, { on := 14, ground := Ground.gcOnly Departure.lateStores }], guard := none }) (v := ?_) rfl (by kernel_rfl) (by kernel_rfl) (by kernel_rfl) (fun _ _ _ h => h) (Or.inl ⟨by kernel_rfl, ?_⟩) hHeld ?_
            rotate_left
            · (intro w hSw; (try dsimp only at hSw); obtain ⟨⟨c1, c2⟩, -⟩ := hSw; go_simp); try with_reducible rfl
            try simp only [Act.put, List.setIfInBounds_toArray, List.set_cons_zero, List.set_cons_succ]
            refine wpAnyH_take (i := 13) (oi := { dst := some 64, op := Op.load 63 (Operand.tmp 63), type := 63, pos := "law.go:117", after := #[{ on := 12, ground := Ground.data }, { on := 14, ground := Ground.gcOnly Departure.lateStores }], guard := none }) (v := ?_) rfl (by kernel_rfl) (by kernel_rfl) (by kernel_rfl) (fun _ _ _ h => h) (Or.inl ⟨by kernel_rfl, ?_⟩) hHeld ?_
            rotate_left
            · (intro w hSw; (try dsimp only at hSw); obtain ⟨⟨c1, c2⟩, -⟩ := hSw; go_simp); try with_reducible rfl
            try simp only [Act.put, List.setIfInBounds_toArray, List.set_cons_zero, List.set_cons_succ]
            refine wpAnyH_take (i := 14) (oi := { dst := some 12, op := Op.assign (Operand.tmp 54), type := 63, pos := "law.go:117", after := #[{ on := 3, ground := Ground.data }, { on := 0, ground := Ground.phase }, { on := 1, ground := Ground.phase }, { on := 2, ground := Ground.phase }, { on := 3, ground := Ground.phase }, { on := 4, ground := Ground.textOnly Departure.lateStores }, { on := 5, ground := Ground.textOnly Departure.lateStores }, { on := 6, ground := Ground.textOnly Departure.lateStores }, { on := 7, ground := Ground.textOnly Departure.lateStores }, { on := 8, ground := Ground.textOnly Departure.lateStores }, { on := 9, ground := Ground.textOnly Departure.lateStores }, { on := 10, ground := Ground.textOnly Departure.lateStoresUnsure }, { on := 11, ground := Ground.textOnly Departure.lateStores }, { on := 12, ground := Ground.textOnly Departure.lateStores }, { on := 13, ground := Ground.textOnly Departure.lateStores }], guard := none }) (v := ?_) rfl (by kernel_rfl) (by kernel_rfl) (by kernel_rfl) (fun _ _ _ h => h) (Or.inl ⟨by kernel_rfl, ?_⟩) hHeld ?_
            rotate_left
            · (intro w hSw; (try dsimp only at hSw); obtain ⟨⟨c1, c2⟩, -⟩ := hSw; go_simp); try with_reducible rfl
            try simp only [Act.put, List.setIfInBounds_toArray, List.set_cons_zero, List.set_cons_succ]
            refine wpAnyH_take (i := 15) (oi := { dst := some 13, op := Op.assign (Operand.tmp 64), type := 63, pos := "law.go:117", after := #[{ on := 13, ground := Ground.data }, { on := 14, ground := Ground.chain }, { on := 0, ground := Ground.phase }, { on := 1, ground := Ground.phase }, { on := 2, ground := Ground.phase }, { on := 3, ground := Ground.phase }, { on := 4, ground := Ground.phase }, { on := 5, ground := Ground.phase }, { on := 6, ground := Ground.phase }, { on := 7, ground := Ground.phase }, { on := 8, ground := Ground.phase }, { on := 9, ground := Ground.phase }, { on := 10, ground := Ground.phase }, { on := 11, ground := Ground.phase }, { on := 12, ground := Ground.phase }, { on := 13, ground := Ground.phase }, { on := 14, ground := Ground.phase }], guard := none }) (v := ?_) rfl (by kernel_rfl) (by kernel_rfl) (by kernel_rfl) (fun _ _ _ h => h) (Or.inl ⟨by kernel_rfl, ?_⟩) hHeld ?_
            rotate_left
            · (intro w hSw; (try dsimp only at hSw); obtain ⟨⟨c1, c2⟩, -⟩ := hSw; go_simp); try with_reducible rfl
            try simp only [Act.put, List.setIfInBounds_toArray, List.set_cons_zero, List.set_cons_succ]
            refine wpAnyH_done (by kernel_rfl) ?_ _
            have HELD := hide hHeld
            clear hHeld
            go_wp2
            go_meet
            exact ⟨rfl, rfl, HELD.out.2⟩
          case rest =>
            obtain ⟨rfl, rfl, ht, ho, hb⟩ := hcut
            have TC := hide ht
            have OC := hide ho
            have BC := hide hb
            clear ht ho hb TK OK BK hrt hz9 hv9 hn0 hnil c1 c2 hz8 hv8 hrn
            go_wp2_with fail
            refine (HD1.out _ TC.out.a).mono ?_
            rintro e w4 ⟨rfl, hca, hoa⟩
            have OA := hide hoa
            have CB := hide (TC.out.b.only hoa (fun e => TC.out.a.noCells _ _ _ (e ▸ TC.out.b.head)) TC.out.ne.2.2.symm)
            have CA := hide hca
            have O4 := hide (owns_only OC.out hoa TC.out.a.noCells)
            have B4 := hide (hoa.below BC.out HA1.out.1 BC.out.size)
            have HNE := hide TC.out.ne
            clear hca hoa TC OC BC HD1
            have hnl40 := HNL.out
            go_wp2_with fail
            refine (HD2.out _ CB.out).mono ?_
            rintro e w5 ⟨rfl, hcb, hob⟩
            have T5 := hide (show TwoIs w5 pa ba pb bb (allA (N.take (k + 1))) (allA (L2.take (k + 1))) from ⟨CA.out.only hob HNE.out.1 HNE.out.2.2, hcb, HNE.out⟩)
            have O5 := hide (owns_only O4.out hob CB.out.noCells)
            have B5 := hide (hob.below B4.out HB1.out.1 B4.out.size)
            clear hcb hob CA CB O4 B4 OA HNE HD2
            go_wp2_with fail
            go_roundw
            case rel => exact ⟨k + 1, HLT.out, by go_num, T5.out, O5.out, B5.out⟩
            case measure => have := HLT.out; simp [Go.RowKit.intOf]; omega
        · obtain rfl : N.length = k := by omega
          rw [HEQ.out, List.take_length] at TK
          have hlen := HAL.out.len
          have HLP := hide (fun W hW => chlist_any pa ba (allA N) W hW)
          have HLQ := hide (fun W hW => chlist_any pb bb (allA N) W hW)
          unfold ListIs at HLP HLQ
          have HRI := hide HAL.out.rises
          rw [hlen] at HLP HLQ
          have HLEN := hide hlen
          clear hlt hlen HG1 HG2 HL2 HEQ HAL HRG hk
          generalize allA N = M at *
          go_wp2_with fail
          refine (HLP.out _ TK.out.a).mono ?_
          rintro e w4 ⟨a1, c1, rfl, ho1, hb1⟩
          have A4 := hide (AcsIn.of_owns (c := c1) (by rw [HLEN.out]; exact ho1))
          have T4 := hide (TK.out.kept hb1)
          have B4 := hide (BK.out.trans (hb1.mono BK.out.size))
          clear ho1 hb1 TK OK BK HLP
          go_wp2_with fail
          refine (HLQ.out _ T4.out.b).mono ?_
          rintro e w5 ⟨a2, c2, rfl, ho2, hb2⟩
          have A5 := hide (A4.out.below hb2)
          have Q5 := hide (AcsIn.of_owns (c := c2) (by rw [HLEN.out]; exact ho2))
          have B5 := hide (B4.out.trans (hb2.mono B4.out.size))
          clear ho2 hb2 T4 A4 B4 HLQ
          go_wp2_with fail
          go_loopw [98] (fun i W => ∃ k : Nat, k ≤ N.length ∧ i = .int .i64 k ∧ AcsIn W a1 M ∧ AcsIn W a2 M ∧ Below w.heap.size w W) (fun i _ => N.length - (Go.RowKit.intOf i).toNat)
          case atStart => exact ⟨0, by omega, rfl, A5.out, Q5.out, B5.out⟩
          case round =>
            obtain ⟨k, hk, rfl, hp, hq, hb⟩ := hrel
            have PK := hide hp
            have QK := hide hq
            have BK := hide hb
            clear hp hq hb A5 Q5 B5
            by_cases hlt : k < N.length
            · have HLT := hide hlt
              obtain ⟨g1, rfl, -, p0, p1, p2⟩ := PK.out k (by rw [HLEN.out]; exact hlt)
              obtain ⟨g2, rfl, -, q0, q1, q2⟩ := QK.out k (by rw [HLEN.out]; exact hlt)
              have HXK := hide (fun (j : Nat) (h : k = j + 1) => show (M.getD j ac0).code < (M.getD k ac0).code from by
                have hl := HLEN.out
                have e1 : M.getD j ac0 = M[j]'(by omega) := by simp [List.getD, show j < M.length by omega]
                have e2 : M.getD k ac0 = M[k]'(by omega) := by simp [List.getD, show k < M.length by omega]
                rw [e1, e2]
                exact List.pairwise_iff_getElem.1 HRI.out j k (by omega) (by omega) (by omega))
              generalize M.getD k ac0 = x at *
              obtain ⟨xc, xk, xs⟩ := x
              dsimp only at *
              have hne := fun W => neq_same xc xk xs W
              go_upto_region 25 with (fail)
              go_cut [127] from 101 to 127 (fun s W => s = .bool false ∧ AcsIn W (some ⟨g1, 0, none⟩) M ∧ AcsIn W (some ⟨g2, 0, none⟩) M ∧ Below w.heap.size w W)
              case first =>
                by_cases h0 : k = 0
                · subst h0
                  go_quiet (fail)
                  go_wp2
                  go_meet
                  exact ⟨rfl, PK.out, QK.out, below_drewN BK.out _⟩
                · obtain ⟨j, hj⟩ : ∃ j, k = j + 1 := ⟨k - 1, by omega⟩
                  obtain ⟨g3, hg3, -, r0, r1, r2⟩ := PK.out j (by rw [HLEN.out]; omega)
                  simp only [Option.some.injEq, Addr.mk.injEq, and_true] at hg3
                  subst hg3
                  have hx := HXK.out j hj
                  obtain ⟨g1', hsub, hsubw, hwj1, hwj2⟩ := one_less k j hj (by have := HNL.out; have := HLT.out; exact Nat.le_trans (Nat.le_of_lt this) (Nat.le_trans HNL.out (by decide)))
                  have hkp : 0 < k := by rw [hj]; exact Nat.succ_pos j
                  have hjl : j < N.length := by have := HLT.out; rw [hj] at this; exact Nat.lt_of_succ_lt this
                  generalize (M.getD j ac0).code = z at *
                  have g2' : decide (xc ≤ z) = false := decide_eq_false (by omega)
                  clear HXK hx r1 r2 hj h0
                  go_quiet (fail)
                  go_wp2
                  go_meet
                  exact ⟨rfl, PK.out, QK.out, below_drewN BK.out _⟩
              case rest =>
                obtain ⟨rfl, hp, hq, hb⟩ := hcut
                have PC := hide hp
                have QC := hide hq
                have BC := hide hb
                clear hp hq hb PK QK BK p0 p1 p2 q0 q1 q2 hne HXK
                have hnl40 := HNL.out
                go_wp2_with fail
                go_roundw
                case rel => exact ⟨k + 1, HLT.out, by go_num, PC.out, QC.out, BC.out⟩
                case measure => have := HLT.out; simp [Go.RowKit.intOf]; omega
            · obtain rfl : N.length = k := by omega
              go_wp2_with fail
              refine (wakes21 _).mono ?_
              rintro e w9 ⟨rfl, hb9⟩
              have B9 := hide (BK.out.trans (hb9.mono BK.out.size))
              clear hb9
              go_wp2_with fail
              go_ret
              exact ⟨rfl, B9.out⟩

set_option maxRecDepth 100000 in
theorem chartOrder_lifted (os : Os) (started : os.Started) (H : Type) (enc : TypeId × Value → H) :
    ReturnsInHanded {} Try.checked os 5 .any (Rows.chartOrderSpec.pre6 enc Try.prog Try.f5 Rows.chartOrderRow.domain false) (Rows.chartOrderSpec.post enc Try.prog Try.f5 false true false false) := by
  refine returnsInHanded_of_change (C := Try.checked) own started (by kernel_rfl) Try.func5
    (ChangeSpec.witness6 (enc := enc) (C := Try.checked) false ⟨#[], #[.slice none 0 0, .int .u8 0], []⟩ 8 (by kernel_rfl) (by kernel_rfl) (by kernel_rfl) (by kernel_rfl)) ?_
  intro W base args ds gs before hval0 hW _ _
  have hval : ∀ (j : Nat) t v, Try.f5.params[j]? = some t → args[j]? = some v → Value.okWide Try.prog W .any base t v := hval0
  have hW' := hW
  obtain ⟨p, q, hA0, hV, rfl, hfz, hnd⟩ := hW
  have hA : DataW.TrodAll enc Try.prog W 0 (fun _ => true) true Try.f5.params.toList args.toList ds p := hA0
  rw [Try.params5] at hA hval
  obtain ⟨v0, vs0, d0, ds0, p0, q0, hargs, rfl, rfl, h0, r0⟩ := trodAll_cons hA
  obtain ⟨v1, vs1, d1, ds1, p1, q1, rfl, rfl, rfl, h1, r1⟩ := trodAll_cons r0
  obtain ⟨rfl, rfl, rfl⟩ := trodAll_nil r1
  obtain rfl : args = #[v0, v1] := by cases args; simp_all
  obtain ⟨rfl, rfl⟩ := trodVars_none hV
  have z0 := open_nums_slice Try.underlying61 Try.underlying63 (by kernel_rfl) (hval 0 61 v0 rfl rfl) h0
  obtain ⟨turn, rfl, rfl, rfl, w1⟩ := open_int Try.underlying5 (hval 1 5 v1 rfl rfl) h1
  have z1 := wf_u8 w1
  clear hA0 hval0
  refine (chartOrder_walk v0 turn z1.1 z1.2 W z0).mono fun e W' ⟨he, hb⟩ => ?_
  subst he
  exact ⟨_, rfl, post_law laidOut (of_decide_eq_true (by kernel_rfl)) rfl rfl Try.underlying4 hW' ⟨rfl, rfl, rfl⟩ hb⟩

/-- THE STATEMENT -/
theorem chartOrder_holds : Rows.ChartOrderSaid :=
  OpenClaim.holds_of_wide 5 Try.f5 rfl rfl rfl rfl rfl rfl rfl ⟨rfl, rfl, rfl, rfl, rfl⟩ rfl rfl rfl rfl rfl (by kernel_rfl) Try.func5 (by kernel_rfl)
    (of_decide_eq_true (by kernel_rfl)) (by unfold Func.isWrapper; first | (rw [if_pos (by decide +kernel)]; kernel_rfl) | (rw [if_neg (by decide +kernel)]; exact ⟨rfl, rfl⟩))
    (fun os started H enc _ => chartOrder_lifted os started H enc)

end Go.Proofs.Ytehjhldijhoeeaa
