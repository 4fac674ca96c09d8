/-
  Layer 7: GeoWins returns true at every config and places.
-/
import Derived.Test.YtmhpnlfjonfghaaLaw7b
import Derived.Test.YtmhpnlfjonfghaaKitC
import Derived.Deep.DeepCutAuto
namespace Go.Proofs.Ytmhpnlfjonfghaa
set_option linter.unusedSimpArgs false
set_option linter.unusedVariables false
open Go.RowKit Go.WideShapes Go.ChangeShapes Go.ChangeAt

theorem keep_wins {w W W' : World} {m : Nat} {b p s sp lo ba le : Int} (h : W.cell? ⟨m, 0, none⟩ = some (.int .i64 b) ∧ W.cell? ⟨m, 1, none⟩ = some (.int .i64 p) ∧ W.cell? ⟨m, 2, none⟩ = some (.int .i64 s) ∧ W.cell? ⟨m, 3, none⟩ = some (.int .i64 sp) ∧ W.cell? ⟨m, 4, none⟩ = some (.int .i64 lo) ∧ W.cell? ⟨m, 5, none⟩ = some (.int .i64 ba) ∧ W.cell? ⟨m, 6, none⟩ = some (.int .i64 le) ∧ m < W.heap.size ∧ Below w.heap.size w W) (hb : Below W.heap.size W W') : W'.cell? ⟨m, 0, none⟩ = some (.int .i64 b) ∧ W'.cell? ⟨m, 1, none⟩ = some (.int .i64 p) ∧ W'.cell? ⟨m, 2, none⟩ = some (.int .i64 s) ∧ W'.cell? ⟨m, 3, none⟩ = some (.int .i64 sp) ∧ W'.cell? ⟨m, 4, none⟩ = some (.int .i64 lo) ∧ W'.cell? ⟨m, 5, none⟩ = some (.int .i64 ba) ∧ W'.cell? ⟨m, 6, none⟩ = some (.int .i64 le) ∧ m < W'.heap.size ∧ Below w.heap.size w W' := by
  obtain ⟨c0, c1, c2, c3, c4, c5, c6, l0, hB⟩ := h
  exact ⟨cell_keep c0 l0 hb, cell_keep c1 l0 hb, cell_keep c2 l0 hb, cell_keep c3 l0 hb, cell_keep c4 l0 hb, cell_keep c5 l0 hb, cell_keep c6 l0 hb, Nat.lt_of_lt_of_le l0 hb.size, below_trans hB hb⟩
theorem drew_wins {w W : World} {m : Nat} {b p s sp lo ba le : Int} (h : W.cell? ⟨m, 0, none⟩ = some (.int .i64 b) ∧ W.cell? ⟨m, 1, none⟩ = some (.int .i64 p) ∧ W.cell? ⟨m, 2, none⟩ = some (.int .i64 s) ∧ W.cell? ⟨m, 3, none⟩ = some (.int .i64 sp) ∧ W.cell? ⟨m, 4, none⟩ = some (.int .i64 lo) ∧ W.cell? ⟨m, 5, none⟩ = some (.int .i64 ba) ∧ W.cell? ⟨m, 6, none⟩ = some (.int .i64 le) ∧ m < W.heap.size ∧ Below w.heap.size w W) : W.drew.cell? ⟨m, 0, none⟩ = some (.int .i64 b) ∧ W.drew.cell? ⟨m, 1, none⟩ = some (.int .i64 p) ∧ W.drew.cell? ⟨m, 2, none⟩ = some (.int .i64 s) ∧ W.drew.cell? ⟨m, 3, none⟩ = some (.int .i64 sp) ∧ W.drew.cell? ⟨m, 4, none⟩ = some (.int .i64 lo) ∧ W.drew.cell? ⟨m, 5, none⟩ = some (.int .i64 ba) ∧ W.drew.cell? ⟨m, 6, none⟩ = some (.int .i64 le) ∧ m < W.drew.heap.size ∧ Below w.heap.size w W.drew := by
  obtain ⟨c0, c1, c2, c3, c4, c5, c6, l0, hB⟩ := h
  exact ⟨c0, c1, c2, c3, c4, c5, c6, l0, hB.drew⟩

theorem other_wins {w W : World} {m : Nat} {b p s sp lo ba le : Int} {q j : Nat} {v : Value} (n0 : q ≠ m) (hbase : w.heap.size ≤ q) (h : W.cell? ⟨m, 0, none⟩ = some (.int .i64 b) ∧ W.cell? ⟨m, 1, none⟩ = some (.int .i64 p) ∧ W.cell? ⟨m, 2, none⟩ = some (.int .i64 s) ∧ W.cell? ⟨m, 3, none⟩ = some (.int .i64 sp) ∧ W.cell? ⟨m, 4, none⟩ = some (.int .i64 lo) ∧ W.cell? ⟨m, 5, none⟩ = some (.int .i64 ba) ∧ W.cell? ⟨m, 6, none⟩ = some (.int .i64 le) ∧ m < W.heap.size ∧ Below w.heap.size w W) : (W.setCell ⟨q, j, none⟩ v).cell? ⟨m, 0, none⟩ = some (.int .i64 b) ∧ (W.setCell ⟨q, j, none⟩ v).cell? ⟨m, 1, none⟩ = some (.int .i64 p) ∧ (W.setCell ⟨q, j, none⟩ v).cell? ⟨m, 2, none⟩ = some (.int .i64 s) ∧ (W.setCell ⟨q, j, none⟩ v).cell? ⟨m, 3, none⟩ = some (.int .i64 sp) ∧ (W.setCell ⟨q, j, none⟩ v).cell? ⟨m, 4, none⟩ = some (.int .i64 lo) ∧ (W.setCell ⟨q, j, none⟩ v).cell? ⟨m, 5, none⟩ = some (.int .i64 ba) ∧ (W.setCell ⟨q, j, none⟩ v).cell? ⟨m, 6, none⟩ = some (.int .i64 le) ∧ m < (W.setCell ⟨q, j, none⟩ v).heap.size ∧ Below w.heap.size w (W.setCell ⟨q, j, none⟩ v) := by
  obtain ⟨c0, c1, c2, c3, c4, c5, c6, l0, hB⟩ := h
  exact ⟨(World.cell?_setCell_other _ _ _ _ (fun h => n0 (congrArg Addr.block h))).trans c0, (World.cell?_setCell_other _ _ _ _ (fun h => n0 (congrArg Addr.block h))).trans c1, (World.cell?_setCell_other _ _ _ _ (fun h => n0 (congrArg Addr.block h))).trans c2, (World.cell?_setCell_other _ _ _ _ (fun h => n0 (congrArg Addr.block h))).trans c3, (World.cell?_setCell_other _ _ _ _ (fun h => n0 (congrArg Addr.block h))).trans c4, (World.cell?_setCell_other _ _ _ _ (fun h => n0 (congrArg Addr.block h))).trans c5, (World.cell?_setCell_other _ _ _ _ (fun h => n0 (congrArg Addr.block h))).trans c6, Nat.lt_of_lt_of_eq l0 (World.size_setCell _ _ _).symm, hB.setCell hbase _⟩

theorem nums_slice {w : World} {k : IntKind} {v : Value} {zs : List Int} (h : NumsAt w k v zs) : ∃ (a : Option Addr) (cap : Nat), v = .slice a zs.length cap ∧
    ∀ i, i < zs.length → ∃ b off, a = some ⟨b, off, none⟩ ∧ b < w.heap.size ∧ w.cell? ⟨b, off + i, none⟩ = some (.int k (zs.getD i 0)) := by
  rcases h with ⟨rfl, rfl⟩ | ⟨b, off, cap, rfl, _, _, _, hc⟩ | ⟨a, cap, rfl, rfl⟩
  · exact ⟨none, 0, rfl, by simp⟩
  · exact ⟨_, cap, rfl, fun i hi => ⟨b, off, rfl, World.block_lt_of_cell? w ⟨b, off + i, none⟩ (hc i hi), hc i hi⟩⟩
  · exact ⟨_, cap, rfl, by simp⟩

/-- so many live pages in so many blocks, n in all -/
def WinsAt (L : List Nat) (nb n q : Nat) (W : World) : Prop := L.length = nb ∧ L.sum = n ∧ W.heap[q]? = some (.cells (L.map fun x : Nat => Value.int .i64 (x : Int)).toArray 3 (0, 0))
theorem sum_set : ∀ (L : List Nat) (j v : Nat), j < L.length → (L.set j v).sum + L.getD j 0 = L.sum + v
  | [], j, v, h => by simp at h
  | a :: L, 0, v, h => by simp; omega
  | a :: L, j + 1, v, h => by
    have := sum_set L j v (by simpa using h)
    simp at this ⊢
    omega
theorem getD_le_sum : ∀ (L : List Nat) (j : Nat), L.getD j 0 ≤ L.sum
  | [], j => by simp
  | a :: L, 0 => by simp
  | a :: L, j + 1 => by have := getD_le_sum L j; simp at this ⊢; omega
theorem le_sum : ∀ (L : List Nat) (x : Nat), (∀ j, j < L.length → x ≤ L.getD j 0) → L.length * x ≤ L.sum
  | [], x, _ => by simp
  | a :: L, x, h => by
    have h0 := h 0 (by simp)
    have := le_sum L x (fun j hj => by simpa using h (j + 1) (by simpa using hj))
    simp at h0
    simp only [List.length_cons, List.sum_cons, Nat.succ_mul]
    omega
theorem wins_at {L : List Nat} {nb n q : Nat} {W : World} (h : WinsAt L nb n q W) (j : Nat) (hj : j < nb) :
    W.cell? ⟨q, j, none⟩ = some (.int .i64 ((L.getD j 0 : Nat) : Int)) ∧ W.frozen? ⟨q, j, none⟩ = false ∧ L.getD j 0 ≤ n := by
  obtain ⟨h1, h2, h3⟩ := h
  refine ⟨?_, frozen_of_block h3 j, by have := getD_le_sum L j; omega⟩
  rw [cell_of_block h3]
  have : j < L.length := by omega
  simp [List.getD, this]
theorem wins_next {L : List Nat} {nb n q : Nat} {W : World} (h : WinsAt L nb n q W) (j : Nat) (hj : j < nb) :
    WinsAt (L.set j (L.getD j 0 + 1)) nb (n + 1) q (W.setCell ⟨q, j, none⟩ (.int .i64 (((L.getD j 0 : Nat) : Int) + 1))) := by
  obtain ⟨h1, h2, h3⟩ := h
  refine ⟨by simpa using h1, by have := sum_set L j (L.getD j 0 + 1) (by omega); omega, ?_⟩
  rw [block_setCell h3]
  simp [List.map_set, List.setIfInBounds_toArray]
theorem wins_keep {L : List Nat} {nb n q : Nat} {W W' : World} (h : WinsAt L nb n q W) (hq : q < W.heap.size) (hb : Below W.heap.size W W') : WinsAt L nb n q W' :=
  ⟨h.1, h.2.1, by rw [hb.block q hq]; exact h.2.2⟩
def MinOf (L : List Nat) (k x : Nat) : Prop := ∀ j, j < k → x ≤ L.getD j 0
theorem min_next {L : List Nat} {k x : Nat} (h : MinOf L k x) : (x ≤ L.getD k 0 → MinOf L (k + 1) x) ∧ (L.getD k 0 ≤ x → MinOf L (k + 1) (L.getD k 0)) := by
  refine ⟨fun hx j hj => ?_, fun hx j hj => ?_⟩
  · by_cases e : j = k
    · subst e; exact hx
    · exact h j (by omega)
  · by_cases e : j = k
    · subst e; exact Nat.le_refl _
    · have := h j (by omega); omega
theorem wins_end {L : List Nat} {nb n q x : Nat} {W : World} {b p sp lo ba : Int} (h : WinsAt L nb n q W) (hm : MinOf L nb x) (hnb : 1 ≤ nb) (hn : (n : Int) = lo + ba) (hb : (nb : Int) = b - 2 - sp - 3 - 1) (hr : lo + ba ≤ (b - 6 - sp) * (p - 2)) : (x : Int) ≤ p - 1 - 1 := by
  obtain ⟨h1, h2, _⟩ := h
  have h3 := le_sum L x (fun j hj => hm j (by omega))
  rw [h1, h2] at h3
  have h4 : (nb : Int) * (x : Int) ≤ (nb : Int) * (p - 2) := by
    have e : (b - 6 - sp) = (nb : Int) := by omega
    rw [e] at hr
    have h5 : ((nb * x : Nat) : Int) ≤ (n : Int) := by exact_mod_cast h3
    rw [Int.natCast_mul] at h5
    omega
  have := Int.le_of_mul_le_mul_left h4 (by omega)
  omega
theorem heap_new (w : World) (o : Obj) : (w.alloc o).heap[w.heap.size]? = some o := by show (w.heap.push o)[w.heap.size]? = some o; simp
theorem wins_start (nb : Nat) (W : World) : WinsAt (List.replicate nb 0) nb 0 W.heap.size (W.alloc (.cells (List.replicate nb (Value.int .i64 0)).toArray 3)) := by
  refine ⟨by simp, by simp, ?_⟩
  rw [heap_new]
  simp [List.map_replicate]
theorem idx_nat (X : Int) (nb : Nat) (h : 1 ≤ nb) : 0 ≤ X % (nb : Int) ∧ X % (nb : Int) < nb ∧ (X % (nb : Int)).toNat < nb := by
  have h1 := Int.emod_nonneg X (show (nb : Int) ≠ 0 by omega)
  have h2 := Int.emod_lt_of_pos X (show (0 : Int) < nb by omega)
  omega
set_option maxRecDepth 100000 in
set_option maxHeartbeats 4000000 in
theorem geoWins_walk (v : Value) (hv : ∃ xs : List Int, xs.length = 7 ∧ v = .agg (xs.map (Value.int .i64)).toArray ∧ ∀ x ∈ xs, (Lit.int .i64 x).wf = true) (u : Value) (w : World)
    (hu : ∃ zs : List Int, NumsAt w .u8 u zs ∧ (∀ z ∈ zs, (Lit.int .u8 z).wf = true) ∧ zs.length ≤ maxLen) :
    Calls Try.prog 5 #[v, u] w fun e w' => e = .returned (.bool true) ∧ Below w.heap.size w w' := by
  obtain ⟨xs, hl, rfl, _⟩ := hv
  obtain ⟨zs, hzs, hwf, hmax⟩ := hu
  obtain ⟨a, cap, rfl, hzc⟩ := nums_slice hzs
  unfold maxLen at hmax
  match xs, hl with
  | [b, p, s, sp, lo, ba, le], _ =>
  have g0 := fun W => of7 b p s sp lo ba le W
  have hst := fun w1 w0 n m => @start14 w w1 w0 n m b p s sp lo ba le
  unfold conf at g0 hst
  have G0 := hide g0
  have HST := hide hst
  have HZC := hide hzc
  have HWF := hide hwf
  clear g0 hst hzc hwf hzs
  have gc := fun W => check_any b p s sp lo ba le W
  unfold conf at gc
  show Calls _ _ #[.agg #[.int .i64 b, .int .i64 p, .int .i64 s, .int .i64 sp, .int .i64 lo, .int .i64 ba, .int .i64 le], _] _ _
  by_cases hc : checkB b p s sp lo ba le = true
  · rw [show checkZ b p s sp lo ba le = 0 from if_pos hc] at gc
    have GC := hide gc
    obtain ⟨hr', s0, ⟨q0, q1⟩, ⟨a0, a1⟩, hroom, ⟨v0, v1⟩, hsz⟩ := of_decide_eq_true hc
    obtain ⟨b4, b256, p2, p64, s32, s1024⟩ := right_iff.1 hr'
    have hn7 : sp ≤ b - 7 := by
      unfold roomZ at hroom
      split at hroom
      · rename_i h; exact h.2.2
      · omega
    have hrm : roomZ b p s sp = (b - 6 - sp) * (p - 2) := if_pos ⟨hr', s0, hn7⟩
    rw [hrm] at hroom
    have HR := hide hroom
    have g3 := fun W => each_any b p s W
    rw [show eachZ b p s = p - 1 from if_pos hr'] at g3
    have G3 := hide g3
    clear gc hc hr' hrm hroom hsz g3
    obtain ⟨nb, hnb⟩ : ∃ nb : Nat, (nb : Int) = b - 2 - sp - 3 - 1 := ⟨(b - 2 - sp - 3 - 1).toNat, by omega⟩
    have n1 : 1 ≤ nb := by omega
    have n256 : nb ≤ 256 := by omega
    have hmk := fun W => run_make_nums (P := Try.prog) 37 3 (k := .i64) (B := 8) Try.underlying37 (by kernel_rfl) nb (nb : Int) rfl (by omega) (by omega) W
    go_enter Try.func5, Try.ntmps5
    go_wp2_with fail
    refine (G0.out _).mono ?_
    rintro e w1 ⟨rfl, hb1⟩
    go_wp2_with fail
    obtain ⟨m, hm⟩ : ∃ m : Nat, m = w1.heap.size := ⟨_, rfl⟩
    obtain ⟨W0, hW0⟩ : ∃ W0 : World, W0 = w1.alloc (.cells #[.int .i64 b, .int .i64 p, .int .i64 s, .int .i64 sp, .int .i64 lo, .int .i64 ba, .int .i64 le] 27) := ⟨_, rfl⟩
    rw [← hm, ← hW0]
    obtain ⟨⟨_, ⟨c0, c1, c2, c3, c4, c5, c6⟩, _⟩, hnm, hz0, hbw⟩ := HST.out _ _ _ _ rfl rfl hb1 hW0
    rw [← hm] at c0 c1 c2 c3 c4 c5 c6 hz0 hnm
    have hwm := hide (Nat.le_of_lt hnm)
    have HS := hide (And.intro c0 (And.intro c1 (And.intro c2 (And.intro c3 (And.intro c4 (And.intro c5 (And.intro c6 (And.intro (show m < W0.heap.size by omega) hbw))))))))
    clear c0 c1 c2 c3 c4 c5 c6 hnm hz0 hbw hb1 hW0 hm HST G0
    refine (wakes7 _).mono ?_
    rintro e w2 ⟨rfl, hb2⟩
    have hS := keep_wins HS.out hb2
    clear HS hb2
    have HS := hide hS
    obtain ⟨c0, c1, c2, c3, c4, c5, c6, l0, hB⟩ := hS
    clear hB
    go_wp2_with fail
    refine (GC.out _).mono ?_
    rintro e w3 ⟨rfl, hb3⟩
    have hS := keep_wins HS.out hb3
    clear HS hb3 c0 c1 c2 c3 c4 c5 c6 l0
    have HS := hide hS
    obtain ⟨c0, c1, c2, c3, c4, c5, c6, l0, hB⟩ := hS
    clear hB
    have HNB := hide hnb
    have hnb' : b - 2 - sp - 3 - 1 = (nb : Int) := hnb.symm
    clear hnb
    go_wp2_with fail
    have HMK := hide hmk
    have Hm3 := hide l0
    have Hw3 := hide (show w.heap.size ≤ w3.heap.size from HS.out.2.2.2.2.2.2.2.2.size)
    clear hnb' hmk
    go_loopw [8, 45] (fun at_ i W => ∃ (n x : Nat) (L : List Nat), at_ = .int .i64 x ∧ i = .int .i64 n ∧ n ≤ (lo + ba).toNat ∧ x ≤ 255 * n ∧ WinsAt L nb n w3.heap.size W ∧ W.cell? ⟨m, 0, none⟩ = some (.int .i64 b) ∧ W.cell? ⟨m, 1, none⟩ = some (.int .i64 p) ∧ W.cell? ⟨m, 2, none⟩ = some (.int .i64 s) ∧ W.cell? ⟨m, 3, none⟩ = some (.int .i64 sp) ∧ W.cell? ⟨m, 4, none⟩ = some (.int .i64 lo) ∧ W.cell? ⟨m, 5, none⟩ = some (.int .i64 ba) ∧ W.cell? ⟨m, 6, none⟩ = some (.int .i64 le) ∧ m < W.heap.size ∧ Below w.heap.size w W) (fun _ i _ => ((lo + ba) - intOf i).toNat)
    case atStart => exact ⟨0, 0, _, rfl, rfl, by omega, by omega, wins_start nb w3, keep_wins HS.out ((Below.refl _ _).alloc (Nat.le_refl _) _)⟩
    case round =>
      clear c0 c1 c2 c3 c4 c5 c6 l0
      obtain ⟨n, x, L, rfl, rfl, hn, hx, hL, hS⟩ := hrel
      have HS := hide hS
      have HL := hide hL
      by_cases hlt : (n : Int) < lo + ba
      · obtain ⟨hl1, hl2, hl3⟩ := hL
        clear hS
        by_cases hp : n < zs.length
        · obtain ⟨pb, off, rfl, hpb, hcell⟩ := HZC.out n hp
          have hcell' : wr.cell? ⟨pb, off + n, none⟩ = some (.int .u8 (zs.getD n 0)) := cell_keep hcell hpb HS.out.2.2.2.2.2.2.2.2
          have hz := wf_u8 (HWF.out (zs.getD n 0) (by simp [List.getD, hp]))
          obtain ⟨z, hzz⟩ := Int.eq_ofNat_of_zero_le hz.1
          rw [hzz] at hcell' hz
          obtain ⟨_, z1⟩ := hz
          clear hcell hl1 hl2 hl3 hzz
          obtain ⟨e0, e1, e2⟩ := idx_nat ((x : Int) + (z : Int)) nb n1
          obtain ⟨k1, k2, k3⟩ := wins_at HL.out _ e2
          have HN := hide (wins_next HL.out _ e2)
          generalize hj : (((x : Int) + (z : Int)) % (nb : Int)).toNat = j at *
          have hjj : (((x : Int) + (z : Int)) % (nb : Int)) = (j : Int) := by omega
          have hHN := HN.out
          clear HN
          have HN := hide hHN
          have HLG := hide (show L.getD j 0 ≤ 4160 by omega)
          generalize L.getD j 0 = y at *
          have y41 : y ≤ 4160 := HLG.out
          have hj2 : j < nb := e2
          clear e0 e1 e2 k3 hHN
          have Hj := hide hj
          clear hj
          go_wp2_with fail
          go_roundw
          case rel => exact ⟨n + 1, x + z, _, by go_num, by go_num, by omega, by omega, HN.out, other_wins (Nat.ne_of_gt Hm3.out) Hw3.out HS.out⟩
          case measure => simp [intOf]; omega
        · clear hl1 hl2 hl3
          obtain ⟨e0, e1, e2⟩ := idx_nat ((x : Int) + 1) nb n1
          obtain ⟨k1, k2, k3⟩ := wins_at HL.out _ e2
          have HN := hide (wins_next HL.out _ e2)
          generalize hj : (((x : Int) + 1) % (nb : Int)).toNat = j at *
          have hjj : (((x : Int) + 1) % (nb : Int)) = (j : Int) := by omega
          have hHN := HN.out
          clear HN
          have HN := hide hHN
          have HLG := hide (show L.getD j 0 ≤ 4160 by omega)
          generalize L.getD j 0 = y at *
          have y41 : y ≤ 4160 := HLG.out
          have hj2 : j < nb := e2
          clear e0 e1 e2 k3 hHN
          have Hj := hide hj
          clear hj
          go_wp2_with fail
          go_roundw
          case rel => exact ⟨n + 1, x + 1, _, by go_num, by go_num, by omega, by omega, HN.out, other_wins (Nat.ne_of_gt Hm3.out) Hw3.out HS.out⟩
          case measure => simp [intOf]; omega
      · have hnn : (n : Int) = lo + ba := by omega
        have HNN := hide hnn
        obtain ⟨c0, c1, c2, c3, c4, c5, c6, l0, hB⟩ := hS
        have k0 := (wins_at HL.out 0 (by omega)).1
        obtain ⟨y0, hy0⟩ : ∃ y0 : Nat, y0 = L.getD 0 0 := ⟨_, rfl⟩
        rw [← hy0] at k0
        have HY0 := hide hy0
        clear hL hB hy0 hnn
        go_wp2_with fail
        clear k0
        go_loop [10, 75] (fun t i => ∃ k x : Nat, k ≤ nb ∧ i = .int .i64 k ∧ t = .int .i64 x ∧ MinOf L k x) (fun _ i => nb - (intOf i).toNat)
        case atStart => exact ⟨0, y0, by omega, rfl, rfl, fun j hj => by omega⟩
        case round =>
          obtain ⟨k, x, hk, rfl, rfl, hmin⟩ := hrel
          have HM := hide hmin
          clear hmin
          by_cases hkk : k < nb
          · obtain ⟨k1, k2, k3⟩ := wins_at HL.out k hkk
            have HK1 := hide (min_next HM.out)
            have HLE := hide k3
            generalize L.getD k 0 = y at *
            clear k2 k3
            by_cases hxy : (x : Int) ≤ (y : Int)
            · go_wp2_with fail
              go_round
              case rel => exact ⟨k + 1, x, by omega, by go_num, rfl, HK1.out.1 (by omega)⟩
              case measure => simp [intOf]; omega
            · go_wp2_with fail
              go_round
              case rel => exact ⟨k + 1, y, by omega, by go_num, rfl, HK1.out.2 (by omega)⟩
              case measure => simp [intOf]; omega
          · obtain rfl : k = nb := by omega
            have hfin : (x : Int) ≤ p - 1 - 1 := wins_end HL.out HM.out (by omega) HNN.out HNB.out HR.out
            go_wp2_with fail
            refine (G3.out _).mono ?_
            rintro e w9 ⟨rfl, hb9⟩
            go_wp2
            go_ret
            exact ⟨rfl, below_trans HS.out.2.2.2.2.2.2.2.2 hb9⟩
  · rw [show checkZ b p s sp lo ba le = 2 from if_neg hc] at gc
    have GC := hide gc
    clear gc hc
    go_enter Try.func5, Try.ntmps5
    go_wp2_with fail
    refine (G0.out _).mono ?_
    rintro e w1 ⟨rfl, hb1⟩
    go_wp2_with fail
    obtain ⟨m, hm⟩ : ∃ m : Nat, m = w1.heap.size := ⟨_, rfl⟩
    obtain ⟨W0, hW0⟩ : ∃ W0 : World, W0 = w1.alloc (.cells #[.int .i64 b, .int .i64 p, .int .i64 s, .int .i64 sp, .int .i64 lo, .int .i64 ba, .int .i64 le] 27) := ⟨_, rfl⟩
    rw [← hm, ← hW0]
    obtain ⟨⟨_, ⟨c0, c1, c2, c3, c4, c5, c6⟩, _⟩, hnm, hz0, hbw⟩ := HST.out _ _ _ _ rfl rfl hb1 hW0
    rw [← hm] at c0 c1 c2 c3 c4 c5 c6 hz0 hnm
    have HS := hide (And.intro c0 (And.intro c1 (And.intro c2 (And.intro c3 (And.intro c4 (And.intro c5 (And.intro c6 (And.intro (show m < W0.heap.size by omega) hbw))))))))
    clear c0 c1 c2 c3 c4 c5 c6 hnm hz0 hbw hb1 hW0 hm HST G0
    refine (wakes7 _).mono ?_
    rintro e w2 ⟨rfl, hb2⟩
    have hS := keep_wins HS.out hb2
    clear HS hb2
    have HS := hide hS
    obtain ⟨c0, c1, c2, c3, c4, c5, c6, l0, hB⟩ := hS
    clear hB
    go_wp2_with fail
    refine (GC.out _).mono ?_
    rintro e w3 ⟨rfl, hb3⟩
    go_wp2_with fail
    refine (wakes7 _).mono ?_
    rintro e w4 ⟨rfl, hb4⟩
    go_wp2
    go_ret
    exact ⟨rfl, below_trans HS.out.2.2.2.2.2.2.2.2 (below_trans hb3 hb4)⟩

set_option maxRecDepth 100000 in
theorem geoWins_lifted (os : Os) (started : os.Started) (H : Type) (enc : TypeId × Value → H) :
    ReturnsInHanded {} Try.checked os 5 .any (Rows.geoWinsSpec.pre6 enc Try.prog Try.f5 Rows.geoWinsRow.domain false) (Rows.geoWinsSpec.post enc Try.prog Try.f5 false true false false) := by
  refine returnsInHanded_of_change (C := Try.checked) own started (by kernel_rfl) Try.func5
    (ChangeSpec.witness6 (enc := enc) (C := Try.checked) false ⟨#[], #[.agg #[.int .i64 0, .int .i64 0, .int .i64 0, .int .i64 0, .int .i64 0, .int .i64 0, .int .i64 0], .slice none 0 0], []⟩ 8 (by kernel_rfl) (by kernel_rfl) (by kernel_rfl) (by kernel_rfl)) ?_
  intro W base args ds gs before hval0 hW _ _
  have hval : ∀ (j : Nat) t v, Try.f5.params[j]? = some t → args[j]? = some v → Value.okWide Try.prog W .any base t v := hval0
  have hW' := hW
  obtain ⟨p, q, hA0, hV, rfl, hfz, hnd⟩ := hW
  have hA : DataW.TrodAll enc Try.prog W 0 (fun _ => true) true Try.f5.params.toList args.toList ds p := hA0
  rw [Try.params5] at hA hval
  obtain ⟨v0, vs0, d0, ds0, p0, q0, hargs, rfl, rfl, h0, r0⟩ := trodAll_cons hA
  obtain ⟨v1, vs1, d1, ds1, p1, q1, rfl, rfl, rfl, h1, r1⟩ := trodAll_cons r0
  obtain ⟨rfl, rfl, rfl⟩ := trodAll_nil r1
  obtain rfl : args = #[v0, v1] := by cases args; simp_all
  obtain ⟨rfl, rfl⟩ := trodVars_none hV
  have z0 := open_nums_struct 7 Try.underlying23 Try.underlying3 (by kernel_rfl) (by kernel_rfl) (of_decide_eq_true (by kernel_rfl)) (hval 0 23 v0 rfl rfl) h0
  have z1 := open_nums_slice Try.underlying42 Try.underlying5 (by kernel_rfl) (hval 1 42 v1 rfl rfl) h1
  clear hA0 hval0
  refine (geoWins_walk v0 z0 v1 W z1).mono fun e W' ⟨he, hb⟩ => ?_
  subst he
  exact ⟨_, rfl, post_law laidOut (of_decide_eq_true (by kernel_rfl)) rfl rfl Try.underlying4 hW' ⟨rfl, rfl, rfl⟩ hb⟩

/-- THE STATEMENT -/
theorem geoWins_holds : Rows.GeoWinsSaid :=
  OpenClaim.holds_of_wide 5 Try.f5 rfl rfl rfl rfl rfl rfl rfl ⟨rfl, rfl, rfl, rfl, rfl⟩ rfl rfl rfl rfl rfl (by kernel_rfl) Try.func5 (by kernel_rfl)
    (of_decide_eq_true (by kernel_rfl)) (by unfold Func.isWrapper; first | (rw [if_pos (by decide +kernel)]; kernel_rfl) | (rw [if_neg (by decide +kernel)]; exact ⟨rfl, rfl⟩))
    (fun os started H enc _ => geoWins_lifted os started H enc)

end Go.Proofs.Ytmhpnlfjonfghaa
