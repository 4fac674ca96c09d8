/-
  Lemmas and contracts of this project's own, put together: Mv2, Mv3, Mv4, MvF, Vic, Vic2, Vic3, VicP.
-/
import Derived.Laws.IdiomRangeMap
import Derived.Test.YtjfmkfhjbdiojaaGreatPk17
namespace Go.Proofs.YtjfmkfhjbdiojaaGreat
set_option linter.unusedSimpArgs false
set_option linter.unusedVariables false
open Go.RowKit Go.WideShapes Go.ChangeShapes Go.ChangeAt Go.Deep W

section
variable {B0 nb pg sz : Nat} {A : MvA} {X : MvS} {N : Int}
set_option maxRecDepth 100000 in
set_option maxHeartbeats 4000000 in
theorem needs16 (b n : Int) (hb : I64 b) (hn : I64 n) (w : World) (h : MvAt w B0 A nb pg X) : Calls Tryz.prog 88 #[.agg #[.pointer (some ⟨A.d, 0, none⟩), .pointer (some ⟨A.pp, 0, none⟩), .pointer (some ⟨A.sb, 0, none⟩), .pointer (some ⟨A.mp, 0, none⟩)], .agg #[.int .i64 b, .int .i64 n], .map none] w fun e w' => e = .returned (.bool (owner X.M (b, n)).isSome) ∧ Below w.heap.size w w' := by
  have HO := hide (fun W (hW : MvAt W B0 A nb pg X) => owner_any hW.mp b n hb hn)
  have H := hide h
  obtain ⟨r, hr⟩ : ∃ r, (owner X.M (b, n)).isSome = r := ⟨_, rfl⟩
  rw [hr]
  have HR := hide hr
  clear h hb hn hr
  obtain ⟨o1, ho1⟩ : ∃ ob, ob = (Obj.cells #[.pointer (some ⟨A.d, 0, none⟩), .pointer (some ⟨A.pp, 0, none⟩), .pointer (some ⟨A.sb, 0, none⟩), .pointer (some ⟨A.mp, 0, none⟩)] 29) := ⟨_, rfl⟩
  obtain ⟨o2, ho2⟩ : ∃ ob, ob = (Obj.cells #[.int .i64 b, .int .i64 n] 41) := ⟨_, rfl⟩
  have hal := ((Below.refl w.heap.size w).alloc (Nat.le_refl _) o1).alloc (by simp) o2
  have T1 := hide (show ((w.alloc o1).alloc o2).heap[w.heap.size]? = some (.cells #[.pointer (some ⟨A.d, 0, none⟩), .pointer (some ⟨A.pp, 0, none⟩), .pointer (some ⟨A.sb, 0, none⟩), .pointer (some ⟨A.mp, 0, none⟩)] 29 (0, 0)) by rw [heap_old _ _ _ (by simp), heap_new, ho1])
  have P1 := hide (show ((w.alloc o1).alloc o2).heap[w.heap.size + 1]? = some (.cells #[.int .i64 b, .int .i64 n] 41 (0, 0)) by rw [show w.heap.size + 1 = (w.alloc o1).heap.size by simp, heap_new, ho2])
  have X1 := hide (H.out.below hal)
  have B1 := hide hal
  clear hal
  go_enter Tryz.func88, Tryz.ntmps88
  go_upto_region 1 with (fail)
  rw [← ho1, ← ho2]
  generalize (w.alloc o1).alloc o2 = w1 at *
  obtain ⟨tb, htb⟩ : ∃ k, w.heap.size = k := ⟨_, rfl⟩
  obtain ⟨rb, hrb⟩ : ∃ k, tb + 1 = k := ⟨_, rfl⟩
  rw [htb] at T1 P1 B1 ⊢
  rw [hrb] at P1 ⊢
  clear hrb ho1 ho2 o1 o2
  have a3 := cell_of_block T1.out 3
  go_wp2_with (refine rw_load rfl 41 (.tmp 4) rfl rb rfl 41 #[.int .i64 b, .int .i64 n] (0, 0) _ P1.out Tryz.underlying41 rfl (by kernel_rfl) ?_)
  refine (HO.out _ X1.out).mono ?_
  rintro e w2 ⟨rfl, hb⟩
  have B2 := hide (B1.out.trans (hb.mono (by rw [← htb]; have := B1.out.size; omega)))
  have HTB := hide htb
  clear hb a3 T1 P1 X1 H HO htb
  rw [← HTB.out] at B2 ⊢
  clear HTB
  cases ho : owner X.M (b, n) with
  | some i =>
    rw [show ownZ X.M b n = (i : Int) from by unfold ownZ; rw [ho]]
    obtain rfl : true = r := by rw [← HR.out, ho]; rfl
    clear ho HR
    obtain ⟨z, hz⟩ : ∃ z : Int, (i : Int) = z := ⟨_, rfl⟩
    have hz0 : 0 ≤ z := by omega
    rw [hz]
    clear hz
    go_wp2_with fail
    go_ret
    exact ⟨rfl, B2.out⟩
  | none =>
    rw [show ownZ X.M b n = -1 from by unfold ownZ; rw [ho]]
    obtain rfl : false = r := by rw [← HR.out, ho]; rfl
    clear ho HR
    have hrg := run_range_nilMap (P := Tryz.prog) w2 76 3 41 Tryz.underlying76
    have hnx : ∀ ty, (Instr.next (.pointer (some ⟨w2.heap.size, 0, none⟩)) false ty).run Tryz.prog (w2.alloc (.mapIter none 0 #[] 0)) = _ := fun ty => run_next_nilMap w2 ty 0 0 #[]
    go_wp2_with fail
    refine wp_loop_rounds 1 ?_
    rw [rounds_succ]
    go_wp2_with fail
    go_ret
    exact ⟨rfl, B2.out.alloc B2.out.size _⟩
/-- what a move does -/
def Move16 (B0 : Nat) (A : MvA) (nb pg sz : Nat) (N : Int) (X : MvS) (l : Nat) (t : TgM) (td : List UInt8) (w : World) (e : Ending) (w' : World) : Prop :=
  ∃ (X' : MvS) (k j : Nat), e = .returned (.int .i64 0) ∧ PutX nb pg sz N X X' k j t td ∧ MvAt w' B0 A nb pg (mapX X' l k j t td) ∧ TurnM B0 A.mo w w'
set_option maxRecDepth 100000 in
set_option maxHeartbeats 8000000 in
theorem move16 (hok : HOk nb pg sz N X) (hN : N ≤ 800000) (hpg : 2 ≤ pg) (hpg2 : pg ≤ 64) (hnb : nb ≤ 256) (hsz : sz ≤ 1024) (hr : 1 ≤ X.lf ∨ 1 ≤ freeN X.L) (l c i : Nat) (hl : X.M.getD l none = some ((c : Int), (i : Int))) (hi : Inj X.M) (t : TgM) (td : List UInt8) (hD : X.D l = (t, td)) (w : World) (h : MvAt w B0 A nb pg X) :
    Calls Tryz.prog 89 #[.agg #[.pointer (some ⟨A.d, 0, none⟩), .pointer (some ⟨A.pp, 0, none⟩), .pointer (some ⟨A.sb, 0, none⟩), .pointer (some ⟨A.mp, 0, none⟩)], .agg #[.int .i64 (c : Int), .int .i64 (i : Int)], .map none] w (Move16 B0 A nb pg sz N X l t td w) := by
  obtain ⟨k0, j0, e0, hk0, hj0, -, -, hL0⟩ := hok.has l _ hl
  simp only [Prod.mk.injEq, Int.natCast_inj] at e0
  obtain ⟨rfl, rfl⟩ := e0
  rw [hD] at hL0
  have hlt : l < X.M.length := getD_lt hl
  have hask : askE X.S (c : Int) (i : Int) = 0 := askE_yes hok.heal.off (by rw [hok.dims.1]; exact hk0) (by rw [hok.dims.2.1]; exact hj0)
  have hread : readP X.S (c : Int) (i : Int) = (bs td, bs (frameL t.k t.l t.s t.n t.m td)) := by
    unfold readP
    rw [if_pos hask, Int.toNat_natCast, Int.toNat_natCast]
    exact hL0.page
  obtain ⟨ht1, ht2, ht3⟩ := id hL0.ok
  have HRD := hide (fun W (hW : MvAt W B0 A nb pg X) => dread_tag (c : Int) (i : Int) t.k t.l t.s t.n t.m ht1 ht2 ht3 td (by rw [hL0.len]; exact hsz) hask hread W hW.st.drive)
  have HPU := hide (fun W (hW : MvAt W B0 A nb pg X) => put16 hok hN hpg (by omega) hnb hr t hL0.ok td hL0.len W hW)
  have HOW := hide (fun X' (hM : X'.M = X.M) W (hW : MvAt W B0 A nb pg X') => owner_any hW.mp (c : Int) (i : Int) (by unfold I64; omega) (by unfold I64; omega))
  have hown : ∀ X' : MvS, X'.M = X.M → ownZ X'.M (c : Int) (i : Int) = (l : Int) := fun X' hM => by
    unfold ownZ
    rw [hM, owner_is hi (getD_some hl)]
  have HOWN := hide hown
  have HWP := hide (fun (X' : MvS) (k j : Nat) (hM : X'.M = X.M) (hk : k < nb) (hj : j < pg) (hf : ∀ m, X.M.getD m none ≠ some ((k : Int), (j : Int))) W (hW : MvAt W B0 A nb pg X') => wput16 hpg2 hnb l k j t td (by rw [hM]; exact hlt) hk hj (fun m hm => absurd (by rw [← hM]; exact hm) (hf m)) W hW)
  have H := hide h
  have HSZ := hide h.size
  obtain ⟨tk, tl, ts, tn, tm⟩ := t
  unfold pageC at HRD
  dsimp only at HRD HPU
  unfold Move16
  unfold Put16 at HPU
  clear hok hN hpg hpg2 hnb hsz hr hi hD h hask hread hL0 ht1 ht2 ht3 hk0 hj0 hown hl hlt
  obtain ⟨cz, hcz⟩ : ∃ z : Int, (c : Int) = z := ⟨_, rfl⟩
  obtain ⟨iz, hiz⟩ : ∃ z : Int, (i : Int) = z := ⟨_, rfl⟩
  obtain ⟨lz, hlz⟩ : ∃ z : Int, (l : Int) = z := ⟨_, rfl⟩
  have hl0 : 0 ≤ lz := by omega
  rw [hcz, hiz] at HRD HOW HOWN ⊢
  rw [hlz] at HOWN HWP
  clear hcz hiz hlz
  obtain ⟨o1, ho1⟩ : ∃ ob, ob = (Obj.cells #[.pointer (some ⟨A.d, 0, none⟩), .pointer (some ⟨A.pp, 0, none⟩), .pointer (some ⟨A.sb, 0, none⟩), .pointer (some ⟨A.mp, 0, none⟩)] 29) := ⟨_, rfl⟩
  obtain ⟨o2, ho2⟩ : ∃ ob, ob = (Obj.cells #[.int .i64 cz, .int .i64 iz] 41) := ⟨_, rfl⟩
  have hal := ((Below.refl w.heap.size w).alloc (Nat.le_refl _) o1).alloc (by simp) o2
  have T1 := hide (show ((w.alloc o1).alloc o2).heap[w.heap.size]? = some (.cells #[.pointer (some ⟨A.d, 0, none⟩), .pointer (some ⟨A.pp, 0, none⟩), .pointer (some ⟨A.sb, 0, none⟩), .pointer (some ⟨A.mp, 0, none⟩)] 29 (0, 0)) by rw [heap_old _ _ _ (by simp), heap_new, ho1])
  have P1 := hide (show ((w.alloc o1).alloc o2).heap[w.heap.size + 1]? = some (.cells #[.int .i64 cz, .int .i64 iz] 41 (0, 0)) by rw [show w.heap.size + 1 = (w.alloc o1).heap.size by simp, heap_new, ho2])
  have X1 := hide (H.out.below hal)
  have B1 := hide (TurnM.of_below (mo := A.mo) hal HSZ.out)
  clear hal
  go_enter Tryz.func89, Tryz.ntmps89
  go_upto_region 1 with (fail)
  rw [← ho1, ← ho2]
  generalize (w.alloc o1).alloc o2 = w1 at *
  obtain ⟨tb, htb⟩ : ∃ k, w.heap.size = k := ⟨_, rfl⟩
  obtain ⟨rb, hrb⟩ : ∃ k, tb + 1 = k := ⟨_, rfl⟩
  rw [htb] at T1 P1 ⊢
  rw [hrb] at P1 ⊢
  clear htb hrb ho1 ho2 o1 o2
  have a0 := cell_of_block T1.out 0
  have b0 := cell_of_block P1.out 0
  have b1 := cell_of_block P1.out 1
  go_wp2_with fail
  refine (HRD.out _ X1.out).mono ?_
  rintro e w2 ⟨rfl, hb⟩
  have T2 := hide ((hb.block _ (heap_lt T1.out)).trans T1.out)
  have P2 := hide ((hb.block _ (heap_lt P1.out)).trans P1.out)
  have X2 := hide (X1.out.below hb)
  have B2 := hide (B1.out.trans (TurnM.of_below hb X1.out.size))
  clear hb a0 b0 b1 T1 P1 X1 B1 HRD H

  go_upto_region 2 with (refine rw_store rfl 49 (.tmp 7) (.tmp 21) rfl w2.heap.size rfl #[.int .i64 4, .int .u8 tk, .int .i64 tl, .int .u64 ts, .int .i64 tn, .int .i64 tm, .string (bs td)] rfl _ (heap_new w2 _) (by kernel_rfl) rfl (by simp [Value.oneCell']) ?_)
  have XB := hide (heap_new w2 (.cells #[.int .i64 0, .int .u8 0, .int .i64 0, .int .u64 0, .int .i64 0, .int .i64 0, .string ⟨#[]⟩] 49))
  have hal := (Below.refl w2.heap.size w2).alloc (Nat.le_refl _) (.cells #[.int .i64 0, .int .u8 0, .int .i64 0, .int .u64 0, .int .i64 0, .int .i64 0, .string ⟨#[]⟩] 49)
  have hbb := setRow_below (hal.trans (Below.refl _ _)) (Nat.le_refl _) hal.size (#[.int .i64 4, .int .u8 tk, .int .i64 tl, .int .u64 ts, .int .i64 tn, .int .i64 tm, .string (bs td)] : Array Value)
  have G3 := hide (setRow_same (cs := (#[.int .i64 4, .int .u8 tk, .int .i64 tl, .int .u64 ts, .int .i64 tn, .int .i64 tm, .string (bs td)] : Array Value)) XB.out)
  have T3 := hide ((hbb.block _ (heap_lt T2.out)).trans T2.out)
  have P3 := hide ((hbb.block _ (heap_lt P2.out)).trans P2.out)
  have X3 := hide (X2.out.below hbb)
  have B3 := hide (B2.out.trans (TurnM.of_below hbb X2.out.size))
  clear hal hbb XB T2 P2 X2 B2
  generalize (w2.alloc (.cells #[.int .i64 0, .int .u8 0, .int .i64 0, .int .u64 0, .int .i64 0, .int .i64 0, .string ⟨#[]⟩] 49)).setRow w2.heap.size (#[.int .i64 4, .int .u8 tk, .int .i64 tl, .int .u64 ts, .int .i64 tn, .int .i64 tm, .string (bs td)] : Array Value) = w3 at *
  generalize w2.heap.size = pb at *
  have a2 := cell_of_block T3.out 2
  have p0 := cell_of_block G3.out 0
  have p1 := cell_of_block G3.out 1
  have p2 := cell_of_block G3.out 2
  have p3 := cell_of_block G3.out 3
  have p4 := cell_of_block G3.out 4
  have p5 := cell_of_block G3.out 5
  have p6 := cell_of_block G3.out 6
  go_wp2_with fail
  refine (HPU.out _ X3.out).mono ?_
  rintro e w4 ⟨X', k, j, rfl, hp, hm, hb⟩
  have T4 := hide (hb.2.cells T3.out (by decide))
  have P4 := hide (hb.2.cells P3.out (by decide))
  have X4 := hide hm
  have HPX := hide hp
  have B4 := hide (B3.out.trans (TurnM.of_turnB hb))
  clear hb hp hm a2 p0 p1 p2 p3 p4 p5 p6 T3 P3 G3 X3 B3 HPU
  obtain ⟨kz, hkz⟩ : ∃ z : Int, (k : Int) = z := ⟨_, rfl⟩
  obtain ⟨jz, hjz⟩ : ∃ z : Int, (j : Int) = z := ⟨_, rfl⟩
  have HWQ := hide (HWP.out X' k j HPX.out.same.1 HPX.out.kj.1 HPX.out.kj.2.2 HPX.out.fresh)
  rw [hkz, hjz] at HWQ ⊢
  clear hkz hjz HWP
  go_upto_region 7 with (refine rw_store rfl 41 (.tmp 9) (.tmp 37) rfl w4.heap.size rfl #[.int .i64 kz, .int .i64 jz] rfl _ (heap_new w4 _) (by kernel_rfl) rfl (by simp [Value.oneCell']) ?_)
  have XB := hide (heap_new w4 (.cells #[.int .i64 0, .int .i64 0] 41))
  have hal := (Below.refl w4.heap.size w4).alloc (Nat.le_refl _) (.cells #[.int .i64 0, .int .i64 0] 41)
  have hbb := setRow_below (hal.trans (Below.refl _ _)) (Nat.le_refl _) hal.size (#[.int .i64 kz, .int .i64 jz] : Array Value)
  have Q5 := hide (setRow_same (cs := (#[.int .i64 kz, .int .i64 jz] : Array Value)) XB.out)
  have T5 := hide ((hbb.block _ (heap_lt T4.out)).trans T4.out)
  have P5 := hide ((hbb.block _ (heap_lt P4.out)).trans P4.out)
  have X5 := hide (X4.out.below hbb)
  have B5 := hide (B4.out.trans (TurnM.of_below hbb X4.out.size))
  clear hal hbb XB T4 P4 X4 B4
  generalize (w4.alloc (.cells #[.int .i64 0, .int .i64 0] 41)).setRow w4.heap.size (#[.int .i64 kz, .int .i64 jz] : Array Value) = w5 at *
  generalize w4.heap.size = qb at *
  have a3 := cell_of_block T5.out 3
  go_wp2_with (refine rw_load rfl 41 (.tmp 4) rfl rb rfl 41 #[.int .i64 cz, .int .i64 iz] (0, 0) _ P5.out Tryz.underlying41 rfl (by kernel_rfl) ?_)
  refine (HOW.out _ HPX.out.same.1 _ X5.out).mono ?_
  rintro e w6 ⟨rfl, hb⟩
  rw [HOWN.out _ HPX.out.same.1]
  have T6 := hide ((hb.block _ (heap_lt T5.out)).trans T5.out)
  have Q6 := hide ((hb.block _ (heap_lt Q5.out)).trans Q5.out)
  have X6 := hide (X5.out.below hb)
  have B6 := hide (B5.out.trans (TurnM.of_below hb X5.out.size))
  clear hb a3 T5 P5 Q5 X5 B5 HOW HOWN
  have a3 := cell_of_block T6.out 3
  go_wp2_with (refine rw_load rfl 41 (.tmp 9) rfl qb rfl 41 #[.int .i64 kz, .int .i64 jz] (0, 0) _ Q6.out Tryz.underlying41 rfl (by kernel_rfl) ?_)
  refine (HWQ.out _ X6.out).mono ?_
  rintro e w7 ⟨rfl, hm, hb⟩
  have X7 := hide hm
  have B7 := hide (B6.out.trans hb)
  clear hm hb a3 T6 Q6 X6 B6 HWQ
  have hrg := run_range_nilMap (P := Tryz.prog) w7 76 3 41 Tryz.underlying76
  have hnx : ∀ ty, (Instr.next (.pointer (some ⟨w7.heap.size, 0, none⟩)) false ty).run Tryz.prog (w7.alloc (.mapIter none 0 #[] 0)) = _ := fun ty => run_next_nilMap w7 ty 0 0 #[]
  go_wp2_with fail
  refine wp_loop_rounds 1 ?_
  rw [rounds_succ]
  go_wp2_with fail
  go_ret
  have hal := (Below.refl w7.heap.size w7).alloc (Nat.le_refl _) (.mapIter none 0 #[] 0)
  exact ⟨X', k, j, rfl, HPX.out, X7.out.below hal, B7.out.trans (TurnM.of_below hal X7.out.size)⟩
end
end Go.Proofs.YtjfmkfhjbdiojaaGreat

namespace Go.Proofs.YtjfmkfhjbdiojaaGreat
set_option linter.unusedSimpArgs false
set_option linter.unusedVariables false
open Go.RowKit Go.WideShapes Go.ChangeShapes Go.ChangeAt Go.Deep W

/-- the open block is closed if it is this one -/
def shutX (X : MvS) (c : Nat) : MvS := if X.op = (c : Int) then closeX X else X
section
variable {B0 nb pg sz : Nat} {A : MvA} {X : MvS} {N : Int}
theorem shut_hok (h : HOk nb pg sz N X) (hpg : 2 ≤ pg) (c : Nat) : HOk nb pg sz N (shutX X c) := by
  unfold shutX
  split
  · exact hok_close h hpg
  · exact h
theorem shut_same (c : Nat) : (shutX X c).M = X.M ∧ (shutX X c).S = X.S ∧ (shutX X c).K = X.K ∧ (shutX X c).L = X.L ∧ (shutX X c).D = X.D ∧ (shutX X c).op ≠ (c : Int) := by
  unfold shutX
  split
  · exact ⟨rfl, rfl, rfl, rfl, rfl, by show (-1 : Int) ≠ _; omega⟩
  · next h => exact ⟨rfl, rfl, rfl, rfl, rfl, h⟩
def Clear16 (B0 : Nat) (A : MvA) (nb pg sz : Nat) (N : Int) (X : MvS) (c : Nat) (w : World) (e : Ending) (w' : World) : Prop :=
  ∃ Y : MvS, e = .returned (.int .i64 0) ∧ HOk nb pg sz (N + 3 * (pg : Int)) Y ∧ Clr pg c pg (shutX X c) Y ∧ MvAt w' B0 A nb pg Y ∧ TurnM B0 A.mo w w'
set_option maxRecDepth 100000 in
set_option maxHeartbeats 8000000 in
theorem clear16 (hok : HOk nb pg sz N X) (hN : N ≤ 700000) (hpg : 2 ≤ pg) (hpg2 : pg ≤ 64) (hnb : nb ≤ 256) (hsz : sz ≤ 1024) (c : Nat) (hc : c < nb) (hcap : (liveN X.M (c : Int) : Int) ≤ capX pg (shutX X c)) (w : World) (h : MvAt w B0 A nb pg X) :
    Calls Tryz.prog 59 #[.agg #[.pointer (some ⟨A.d, 0, none⟩), .pointer (some ⟨A.pp, 0, none⟩), .pointer (some ⟨A.sb, 0, none⟩), .pointer (some ⟨A.mp, 0, none⟩)], .int .i64 (c : Int), .map none] w (Clear16 B0 A nb pg sz N X c w) := by
  have HAS := hide (fun W (hW : MvAt W B0 A nb pg X) => ask_ok (b := A.b) ⟨A.pp, 0, none⟩ ⟨A.sb, 0, none⟩ ⟨A.mp, 0, none⟩ (c : Int) (by omega) (by rw [hok.dims.1]; omega) W hW.st.drive)
  have hok0 := shut_hok hok hpg c
  have hM0 := (shut_same (X := X) c)
  have HSH := hide (fun W (hW : MvAt W B0 A nb pg (shutX X c)) => shape_any A.p A.q A.B A.G _ W hW.st.drive.chip)
  rw [hok0.dims.2.1] at HSH
  have HCH := hide (fun W (hW : MvAt W B0 A nb pg (shutX X c)) => chip_any hW.st.drive)
  have HCLO := hide (fun W (hW : MvAt W B0 A nb pg X) => close_any hW.st)
  have HOP := hide (fun W (hW : MvAt W B0 A nb pg X) => open_any W hW.st)
  have HNE := hide (fun (Y : MvS) (i : Nat) (hi : i < pg) W (hW : MvAt W B0 A nb pg Y) => needs16 (c : Int) (i : Int) (by unfold I64; omega) (by unfold I64; omega) W hW)
  have HMO := hide (fun (Y : MvS) (i l : Nat) (hi : i < pg) (hY : HOk nb pg sz (N + 3 * (i : Int)) Y) (hr : 1 ≤ Y.lf ∨ 1 ≤ freeN Y.L) (hl : Y.M.getD l none = some ((c : Int), (i : Int))) W (hW : MvAt W B0 A nb pg Y) => move16 hY (by omega) hpg hpg2 hnb hsz hr l c i hl hW.mp.inj (Y.D l).1 (Y.D l).2 rfl W hW)
  have HSHUT := hide (show (X.op = (c : Int) → shutX X c = closeX X) ∧ (¬ X.op = (c : Int) → shutX X c = X) from ⟨fun e => if_pos e, fun e => if_neg e⟩)
  have HNEG := hide (show ∀ l x, (shutX X c).M.getD l none = some x → 0 ≤ x.2 from fun l x hx => by
    obtain ⟨k, j, rfl, -⟩ := hok0.has l x hx
    show 0 ≤ (j : Int); omega)
  rw [← hM0.1] at hcap
  have HCAP := hide hcap
  have HOPN := hide hM0.2.2.2.2.2
  unfold Clear16
  unfold Move16 at HMO
  have HOK0 := hide hok0
  have H := hide h
  have HSZ := hide h.size
  have HPG := hide hpg
  have hfl := fld1
  obtain ⟨oz, hoz⟩ : ∃ z, X.op = z := ⟨_, rfl⟩
  rw [hoz] at HSHUT HOP
  generalize shutX X c = X0 at *
  clear h hok hok0 hM0 hN hpg hnb hsz hc hcap hoz
  obtain ⟨cz, hcz⟩ : ∃ z : Int, (c : Int) = z := ⟨_, rfl⟩
  rw [hcz] at HAS HNE HSHUT ⊢
  have HCZ := hide hcz
  clear hcz
  have X1 := hide (H.out.below ((Below.refl w.heap.size w).alloc (Nat.le_refl _) (.cells #[.pointer (some ⟨A.d, 0, none⟩), .pointer (some ⟨A.pp, 0, none⟩), .pointer (some ⟨A.sb, 0, none⟩), .pointer (some ⟨A.mp, 0, none⟩)] 29)))
  have T1 := hide (heap_new w (.cells #[.pointer (some ⟨A.d, 0, none⟩), .pointer (some ⟨A.pp, 0, none⟩), .pointer (some ⟨A.sb, 0, none⟩), .pointer (some ⟨A.mp, 0, none⟩)] 29))
  have B1 := hide (TurnM.of_below (mo := A.mo) ((Below.refl w.heap.size w).alloc (Nat.le_refl _) (.cells #[.pointer (some ⟨A.d, 0, none⟩), .pointer (some ⟨A.pp, 0, none⟩), .pointer (some ⟨A.sb, 0, none⟩), .pointer (some ⟨A.mp, 0, none⟩)] 29)) HSZ.out)
  go_enter Tryz.func59, Tryz.ntmps59
  go_upto_region 1 with (fail)
  generalize w.alloc (.cells #[.pointer (some ⟨A.d, 0, none⟩), .pointer (some ⟨A.pp, 0, none⟩), .pointer (some ⟨A.sb, 0, none⟩), .pointer (some ⟨A.mp, 0, none⟩)] 29) = w1 at *
  generalize w.heap.size = tb at *
  clear H
  go_wp2_with (refine rw_load rfl 29 (.tmp 3) rfl tb rfl 29 #[.pointer (some ⟨A.d, 0, none⟩), .pointer (some ⟨A.pp, 0, none⟩), .pointer (some ⟨A.sb, 0, none⟩), .pointer (some ⟨A.mp, 0, none⟩)] (0, 0) _ T1.out Tryz.underlying29 rfl (by kernel_rfl) ?_)
  refine (HAS.out _ X1.out).mono ?_
  rintro e w2 ⟨rfl, hb⟩
  have X2 := hide (X1.out.below hb)
  have T2 := hide ((hb.block _ (heap_lt T1.out)).trans T1.out)
  have B2 := hide (B1.out.trans (TurnM.of_below hb X1.out.size))
  clear hb X1 T1 B1 HAS
  have a2 := cell_of_block T2.out 2
  go_wp2_with fail
  refine (HOP.out _ X2.out).mono ?_
  rintro e w3 ⟨rfl, rfl⟩
  go_upto_if 21 with (fail)
  go_cut [] from 21 to 25 (fun W => MvAt W B0 A nb pg X0 ∧ W.heap[tb]? = some (.cells #[.pointer (some ⟨A.d, 0, none⟩), .pointer (some ⟨A.pp, 0, none⟩), .pointer (some ⟨A.sb, 0, none⟩), .pointer (some ⟨A.mp, 0, none⟩)] 29 (0, 0)) ∧ TurnM B0 A.mo w W)
  case first =>
    by_cases e : oz = cz
    · have g0 : (oz == cz) = true := beq_iff_eq.mpr e
      have HE := hide (HSHUT.out.1 e)
      clear e
      go_wp2_with fail
      refine (HCLO.out _ X2.out).mono ?_
      rintro e w4 ⟨rfl, hs, hb⟩
      have X4 := hide (show MvAt w4 B0 A nb pg X0 by rw [HE.out]; exact X2.out.stTo (X' := closeX X) hs hb rfl)
      have T4 := hide (hb.2.cells T2.out (by decide))
      have B4 := hide (B2.out.trans (TurnM.of_turnB hb))
      clear hs hb HE X2 T2 B2 a2
      go_wp2_with fail
      go_meet
      exact ⟨X4.out, T4.out, B4.out⟩
    · have g0 : (oz == cz) = false := beq_eq_false_iff_ne.mpr e
      have HE := hide (HSHUT.out.2 e)
      clear e
      go_wp2_with fail
      go_meet
      exact ⟨by rw [HE.out]; exact X2.out, T2.out, B2.out⟩
  case rest =>
  obtain ⟨hx, ht, hb⟩ := hcut
  have X3 := hide hx
  have T3 := hide ht
  have B3 := hide hb
  clear hx ht hb X2 T2 B2 a2 HOP HCLO HSHUT
  have a0 := cell_of_block T3.out 0
  go_wp2_with fail
  refine (HCH.out _ X3.out).mono ?_
  rintro e w5 ⟨rfl, rfl⟩
  go_wp2_with fail
  refine (HSH.out _ X3.out).mono ?_
  rintro e w5 ⟨rfl, hb⟩
  have X5 := hide (X3.out.below hb)
  have T5 := hide ((hb.block _ (heap_lt T3.out)).trans T3.out)
  have B5 := hide (B3.out.trans (TurnM.of_below hb X3.out.size))
  clear hb X3 T3 B3 a0 HCH HSH
  go_wp2_with fail
  go_loopw [30] (fun s W => ∃ (i : Nat) (Y : MvS), i ≤ pg ∧ s = .int .i64 (i : Int) ∧ HOk nb pg sz (N + 3 * (i : Int)) Y ∧ Clr pg c i X0 Y ∧ MvAt W B0 A nb pg Y ∧ W.heap[tb]? = some (.cells #[.pointer (some ⟨A.d, 0, none⟩), .pointer (some ⟨A.pp, 0, none⟩), .pointer (some ⟨A.sb, 0, none⟩), .pointer (some ⟨A.mp, 0, none⟩)] 29 (0, 0)) ∧ TurnM B0 A.mo w W) (fun s _ => pg - (intOf s).toNat)
  case atStart => exact ⟨0, X0, by omega, rfl, HOK0.out.mono (by omega), clr_zero c HNEG.out HOPN.out, X5.out, T5.out, B5.out⟩
  case round =>
  obtain ⟨i, Y, hip, rfl, hy, hcl, hx, ht, hb⟩ := hrel
  have Y6 := hide hy
  have C6 := hide hcl
  have X6 := hide hx
  have T6 := hide ht
  have B6 := hide hb
  clear hy hcl hx ht hb X5 T5 B5 HOK0 HNEG HOPN
  rcases Nat.lt_or_ge i pg with hlt | hge
  · have hI : (i : Int) < (pg : Int) := by omega
    have HLT := hide hlt
    clear hip hlt
    go_upto_region 10 with (refine rw_store rfl 41 (.tmp 9) (.tmp 35) rfl wr.heap.size rfl #[.int .i64 cz, .int .i64 (i : Int)] rfl _ (heap_new wr _) (by kernel_rfl) rfl (by simp [Value.oneCell']) ?_)
    have XB := hide (heap_new wr (.cells #[.int .i64 0, .int .i64 0] 41))
    have hal := (Below.refl wr.heap.size wr).alloc (Nat.le_refl _) (.cells #[.int .i64 0, .int .i64 0] 41)
    have hbb := setRow_below (hal.trans (Below.refl _ _)) (Nat.le_refl _) hal.size (#[.int .i64 cz, .int .i64 (i : Int)] : Array Value)
    have Q7 := hide (setRow_same (cs := (#[.int .i64 cz, .int .i64 (i : Int)] : Array Value)) XB.out)
    have T7 := hide ((hbb.block _ (heap_lt T6.out)).trans T6.out)
    have X7 := hide (X6.out.below hbb)
    have B7 := hide (B6.out.trans (TurnM.of_below hbb X6.out.size))
    clear hal hbb XB T6 X6 B6
    generalize (wr.alloc (.cells #[.int .i64 0, .int .i64 0] 41)).setRow wr.heap.size (#[.int .i64 cz, .int .i64 (i : Int)] : Array Value) = w7 at *
    generalize wr.heap.size = qb at *
    (try rw [show ∀ (a : Act) (v : Value), a.put none v = a from fun _ _ => rfl])
    go_wp2_with (first | refine rw_load rfl 29 (.tmp 3) rfl tb rfl 29 #[.pointer (some ⟨A.d, 0, none⟩), .pointer (some ⟨A.pp, 0, none⟩), .pointer (some ⟨A.sb, 0, none⟩), .pointer (some ⟨A.mp, 0, none⟩)] (0, 0) _ T7.out Tryz.underlying29 rfl (by kernel_rfl) ?_ | refine rw_load rfl 41 (.tmp 9) rfl qb rfl 41 #[.int .i64 cz, .int .i64 (i : Int)] (0, 0) _ Q7.out Tryz.underlying41 rfl (by kernel_rfl) ?_)
    refine (HNE.out Y i HLT.out _ X7.out).mono ?_
    rintro e w8 ⟨rfl, hb⟩
    have X8 := hide (X7.out.below hb)
    have T8 := hide ((hb.block _ (heap_lt T7.out)).trans T7.out)
    have Q8 := hide ((hb.block _ (heap_lt Q7.out)).trans Q7.out)
    have B8 := hide (B7.out.trans (TurnM.of_below hb X7.out.size))
    clear hb T7 X7 B7 Q7
    cases ho : owner Y.M (cz, (i : Int)) with
    | none =>
      have HSK := hide (clr_skip C6.out (i := i) (by rw [HCZ.out]; exact fun l hl => owner_none ho l (getD_some hl)))
      clear ho
      rw [show (none : Option Nat).isSome = false from rfl]
      go_wp2_with fail
      go_roundw
      case rel => exact ⟨i + 1, Y, HLT.out, by go_num, Y6.out.mono (by omega), HSK.out, X8.out, T8.out, B8.out⟩
      case measure => have := HLT.out; simp [intOf]; omega
    | some l =>
      have hl : Y.M.getD l none = some ((c : Int), (i : Int)) := by
        have h1 := owner_some ho
        rw [HCZ.out]
        simp [List.getD, h1]
      have HL := hide hl
      have hcp : 1 ≤ capX pg Y := by
        have h1 := C6.out.cap
        have h2 := live_pos Y.M l (c : Int) (i : Int) hl
        have h3 := HCAP.out
        omega
      have HMR := hide (HMO.out Y i l HLT.out Y6.out (Y6.out.cap_room hcp) hl)
      clear ho hl hcp
      rw [HCZ.out] at HMR
      rw [show (some l).isSome = true from rfl]
      go_wp2_with (first | refine rw_load rfl 29 (.tmp 3) rfl tb rfl 29 #[.pointer (some ⟨A.d, 0, none⟩), .pointer (some ⟨A.pp, 0, none⟩), .pointer (some ⟨A.sb, 0, none⟩), .pointer (some ⟨A.mp, 0, none⟩)] (0, 0) _ T8.out Tryz.underlying29 rfl (by kernel_rfl) ?_ | refine rw_load rfl 41 (.tmp 9) rfl qb rfl 41 #[.int .i64 cz, .int .i64 (i : Int)] (0, 0) _ Q8.out Tryz.underlying41 rfl (by kernel_rfl) ?_)
      refine (HMR.out _ X8.out).mono ?_
      rintro e w9 ⟨X', k, j, rfl, hp, hm, hb⟩
      have X9 := hide hm
      have T9 := hide (hb.keep T8.out (by decide))
      have B9 := hide (B8.out.trans hb)
      have P9 := hide hp
      have HCM := hide (clr_move C6.out Y6.out HPG.out X8.out.mp.inj HL.out hp)
      have HOM := hide (hp.mapped l (getD_lt HL.out))
      clear hp hm hb X8 T8 B8 Q8 HMR
      go_wp2_with fail
      go_roundw
      case rel => exact ⟨i + 1, _, HLT.out, by go_num, HOM.out.mono (by omega), HCM.out, X9.out, T9.out, B9.out⟩
      case measure => have := HLT.out; simp [intOf]; omega
  · obtain rfl : i = pg := by omega
    clear hip hge
    go_wp2_with fail
    go_ret
    exact ⟨Y, rfl, Y6.out, C6.out, X6.out, B6.out⟩
end
end Go.Proofs.YtjfmkfhjbdiojaaGreat

namespace Go.Proofs.YtjfmkfhjbdiojaaGreat
set_option linter.unusedSimpArgs false
set_option linter.unusedVariables false
open Go.RowKit Go.WideShapes Go.ChangeShapes Go.ChangeAt Go.Deep W

section
variable {B0 nb pg sz : Nat} {A : MvA} {X : MvS} {N : Int}
theorem set_ok {L : List (Int × Int)} {c : Nat} (hc : c < L.length) (h2 : (L.getD c (0, 0)).1 = 2) : setE L (c : Int) 1 = 0 ∧ setL L (c : Int) 1 = L.set c (1, (L.getD c (0, 0)).2) := by
  have h : setE L (c : Int) 1 = 0 := by
    unfold setE
    rw [if_pos (by omega), if_neg (by omega), Int.toNat_natCast, if_neg (by omega)]
  refine ⟨h, ?_⟩
  unfold setL
  rw [if_pos h, Int.toNat_natCast]
set_option maxRecDepth 100000 in
set_option maxHeartbeats 8000000 in
theorem free16_no (hok : HOk nb pg sz N X) (c : Nat) (hc : c < nb) (hno : 1 ≤ liveN X.M (c : Int) ∨ X.op = (c : Int) ∨ (X.L.getD c (0, 0)).1 ≠ 2) (w : World) (h : MvAt w B0 A nb pg X) :
    Calls Tryz.prog 60 #[.agg #[.pointer (some ⟨A.d, 0, none⟩), .pointer (some ⟨A.pp, 0, none⟩), .pointer (some ⟨A.sb, 0, none⟩), .pointer (some ⟨A.mp, 0, none⟩)], .int .i64 (c : Int)] w fun e w' => e = .returned (.int .i64 8) ∧ Below w.heap.size w w' := by
  have HAS := hide (fun W (hW : MvAt W B0 A nb pg X) => ask_ok (b := A.b) ⟨A.pp, 0, none⟩ ⟨A.sb, 0, none⟩ ⟨A.mp, 0, none⟩ (c : Int) (by omega) (by rw [hok.dims.1]; omega) W hW.st.drive)
  have HLV := hide (fun W (hW : MvAt W B0 A nb pg X) => live_yes hW.mp c hc)
  have HOP := hide (fun W (hW : MvAt W B0 A nb pg X) => open_any W hW.st)
  have HST := hide (fun W (hW : MvAt W B0 A nb pg X) => state_any A.pp A.pq X.L (c : Int) W hW.st.pool)
  have hfs : fstZ X.L (c : Int) = (X.L.getD c (0, 0)).1 := by
    unfold fstZ
    rw [if_pos (by rw [hok.llen]; omega), Int.toNat_natCast]
  rw [hfs] at HST
  have H := hide h
  have HSZ := hide h.size
  obtain ⟨oz, hoz⟩ : ∃ z, X.op = z := ⟨_, rfl⟩
  obtain ⟨lz, hlz⟩ : ∃ z : Int, ((liveN X.M (c : Int) : Nat) : Int) = z := ⟨_, rfl⟩
  obtain ⟨sz', hsz'⟩ : ∃ z : Int, (X.L.getD c (0, 0)).1 = z := ⟨_, rfl⟩
  obtain ⟨cz, hcz⟩ : ∃ z : Int, (c : Int) = z := ⟨_, rfl⟩
  have hno' : 0 < lz ∨ oz = cz ∨ sz' ≠ 2 := by
    rw [← hoz, ← hlz, ← hsz', ← hcz]
    rcases hno with h | h | h
    · exact .inl (by omega)
    · exact .inr (.inl h)
    · exact .inr (.inr h)
  have hl0 : 0 ≤ lz := by rw [← hlz]; omega
  rw [hoz] at HOP
  rw [hlz] at HLV
  rw [hsz'] at HST
  rw [hcz] at HAS HLV HST ⊢
  clear h hok hc hno hoz hlz hsz' hcz hfs
  have HNO := hide hno'
  have HL0 := hide hl0
  clear hno' hl0
  have X1 := hide (H.out.below ((Below.refl w.heap.size w).alloc (Nat.le_refl _) (.cells #[.pointer (some ⟨A.d, 0, none⟩), .pointer (some ⟨A.pp, 0, none⟩), .pointer (some ⟨A.sb, 0, none⟩), .pointer (some ⟨A.mp, 0, none⟩)] 29)))
  have T1 := hide (heap_new w (.cells #[.pointer (some ⟨A.d, 0, none⟩), .pointer (some ⟨A.pp, 0, none⟩), .pointer (some ⟨A.sb, 0, none⟩), .pointer (some ⟨A.mp, 0, none⟩)] 29))
  have B1 := hide ((Below.refl w.heap.size w).alloc (Nat.le_refl _) (.cells #[.pointer (some ⟨A.d, 0, none⟩), .pointer (some ⟨A.pp, 0, none⟩), .pointer (some ⟨A.sb, 0, none⟩), .pointer (some ⟨A.mp, 0, none⟩)] 29))
  go_enter Tryz.func60, Tryz.ntmps60
  go_upto_region 1 with (fail)
  generalize w.alloc (.cells #[.pointer (some ⟨A.d, 0, none⟩), .pointer (some ⟨A.pp, 0, none⟩), .pointer (some ⟨A.sb, 0, none⟩), .pointer (some ⟨A.mp, 0, none⟩)] 29) = w1 at *
  clear H
  go_wp2_with (refine rw_load rfl 29 (.tmp 2) rfl w.heap.size rfl 29 #[.pointer (some ⟨A.d, 0, none⟩), .pointer (some ⟨A.pp, 0, none⟩), .pointer (some ⟨A.sb, 0, none⟩), .pointer (some ⟨A.mp, 0, none⟩)] (0, 0) _ T1.out Tryz.underlying29 rfl (by kernel_rfl) ?_)
  refine (HAS.out _ X1.out).mono ?_
  rintro e w2 ⟨rfl, hb⟩
  have X2 := hide (X1.out.below hb)
  have T2 := hide ((hb.block _ (heap_lt T1.out)).trans T1.out)
  have B2 := hide (B1.out.trans (hb.mono B1.out.size))
  clear hb X1 T1 B1 HAS
  have a1 := cell_of_block T2.out 1
  have a2 := cell_of_block T2.out 2
  have a3 := cell_of_block T2.out 3
  go_wp2_with fail
  refine (HLV.out _ X2.out).mono ?_
  rintro e w3 ⟨rfl, rfl⟩
  rcases (show 0 < lz ∨ lz = 0 by have := HL0.out; omega) with hp | rfl
  · go_wp2_with fail
    go_ret
    exact ⟨rfl, B2.out⟩
  · go_wp2_with fail
    refine (HOP.out _ X2.out).mono ?_
    rintro e w3 ⟨rfl, rfl⟩
    by_cases e : oz = cz
    · have g0 : (oz == cz) = true := beq_iff_eq.mpr e
      clear e
      go_wp2_with fail
      go_ret
      exact ⟨rfl, B2.out⟩
    · have g0 : (oz == cz) = false := beq_eq_false_iff_ne.mpr e
      have g1 : (sz' != 2) = true := bne_iff_ne.mpr (by
        rcases HNO.out with h | h | h
        · omega
        · exact absurd h e
        · exact h)
      clear e
      go_wp2_with fail
      refine (HST.out _ X2.out).mono ?_
      rintro e w3 ⟨rfl, rfl⟩
      go_wp2_with fail
      go_ret
      exact ⟨rfl, B2.out⟩
set_option maxRecDepth 100000 in
set_option maxHeartbeats 8000000 in
theorem free16_ok (hok : HOk nb pg sz N X) (c : Nat) (hc : c < nb) (hlv : liveN X.M (c : Int) = 0) (hop : X.op ≠ (c : Int)) (hst : (X.L.getD c (0, 0)).1 = 2) (w : World) (h : MvAt w B0 A nb pg X) :
    Calls Tryz.prog 60 #[.agg #[.pointer (some ⟨A.d, 0, none⟩), .pointer (some ⟨A.pp, 0, none⟩), .pointer (some ⟨A.sb, 0, none⟩), .pointer (some ⟨A.mp, 0, none⟩)], .int .i64 (c : Int)] w fun e w' => e = .returned (.int .i64 0) ∧ MvAt w' B0 A nb pg (freeX X c) ∧ TurnM B0 A.mo w w' := by
  have hset := set_ok (L := X.L) (c := c) (by rw [hok.llen]; exact hc) hst
  have HSE := hide (fun W (hW : MvAt W B0 A nb pg X) => pset_any A.pp A.pq X.L (c : Int) 1 W hW.st.pool)
  rw [hset.1, hset.2] at HSE
  have HFR := hide (show ∀ W W', MvAt W B0 A nb pg X → PoolAt W' A.pp A.pq (X.L.set c (1, (X.L.getD c (0, 0)).2)) → Only A.pq W W' → MvAt W' B0 A nb pg (freeX X c) ∧ TurnB B0 W W' from fun W W' hW hp ho =>
    ⟨⟨hW.st.poolTo hp ho, hW.mp.keepsT (only_keepsB (Ts := [117]) hW.st.pool.row (by decide) ho) (by decide) (by decide) (by decide), hW.low⟩, TurnB.only hW.st.pool.row ho hW.st.low.2.2.2 hW.size⟩)
  have HAS := hide (fun W (hW : MvAt W B0 A nb pg X) => ask_ok (b := A.b) ⟨A.pp, 0, none⟩ ⟨A.sb, 0, none⟩ ⟨A.mp, 0, none⟩ (c : Int) (by omega) (by rw [hok.dims.1]; omega) W hW.st.drive)
  have HLV := hide (fun W (hW : MvAt W B0 A nb pg X) => live_yes hW.mp c hc)
  have HOP := hide (fun W (hW : MvAt W B0 A nb pg X) => open_any W hW.st)
  have HST := hide (fun W (hW : MvAt W B0 A nb pg X) => state_any A.pp A.pq X.L (c : Int) W hW.st.pool)
  have hfs : fstZ X.L (c : Int) = (X.L.getD c (0, 0)).1 := by
    unfold fstZ
    rw [if_pos (by rw [hok.llen]; omega), Int.toNat_natCast]
  rw [hfs] at HST
  have H := hide h
  have HSZ := hide h.size
  obtain ⟨oz, hoz⟩ : ∃ z, X.op = z := ⟨_, rfl⟩
  obtain ⟨lz, hlz⟩ : ∃ z : Int, ((liveN X.M (c : Int) : Nat) : Int) = z := ⟨_, rfl⟩
  obtain ⟨sz', hsz'⟩ : ∃ z : Int, (X.L.getD c (0, 0)).1 = z := ⟨_, rfl⟩
  obtain ⟨cz, hcz⟩ : ∃ z : Int, (c : Int) = z := ⟨_, rfl⟩
  have g0 : (oz == cz) = false := beq_eq_false_iff_ne.mpr (by rw [← hoz, ← hcz]; exact hop)
  obtain rfl : lz = 0 := by rw [← hlz, hlv]; rfl
  rw [hst] at HST
  rw [hoz] at HOP
  rw [hlz] at HLV
  rw [hcz] at HAS HLV HST HSE ⊢
  clear h hok hc hlv hop hst hoz hlz hsz' hcz hfs hset
  have X1 := hide (H.out.below ((Below.refl w.heap.size w).alloc (Nat.le_refl _) (.cells #[.pointer (some ⟨A.d, 0, none⟩), .pointer (some ⟨A.pp, 0, none⟩), .pointer (some ⟨A.sb, 0, none⟩), .pointer (some ⟨A.mp, 0, none⟩)] 29)))
  have T1 := hide (heap_new w (.cells #[.pointer (some ⟨A.d, 0, none⟩), .pointer (some ⟨A.pp, 0, none⟩), .pointer (some ⟨A.sb, 0, none⟩), .pointer (some ⟨A.mp, 0, none⟩)] 29))
  have B1 := hide ((Below.refl w.heap.size w).alloc (Nat.le_refl _) (.cells #[.pointer (some ⟨A.d, 0, none⟩), .pointer (some ⟨A.pp, 0, none⟩), .pointer (some ⟨A.sb, 0, none⟩), .pointer (some ⟨A.mp, 0, none⟩)] 29))
  go_enter Tryz.func60, Tryz.ntmps60
  go_upto_region 1 with (fail)
  generalize w.alloc (.cells #[.pointer (some ⟨A.d, 0, none⟩), .pointer (some ⟨A.pp, 0, none⟩), .pointer (some ⟨A.sb, 0, none⟩), .pointer (some ⟨A.mp, 0, none⟩)] 29) = w1 at *
  clear H
  go_wp2_with (refine rw_load rfl 29 (.tmp 2) rfl w.heap.size rfl 29 #[.pointer (some ⟨A.d, 0, none⟩), .pointer (some ⟨A.pp, 0, none⟩), .pointer (some ⟨A.sb, 0, none⟩), .pointer (some ⟨A.mp, 0, none⟩)] (0, 0) _ T1.out Tryz.underlying29 rfl (by kernel_rfl) ?_)
  refine (HAS.out _ X1.out).mono ?_
  rintro e w2 ⟨rfl, hb⟩
  have X2 := hide (X1.out.below hb)
  have T2 := hide ((hb.block _ (heap_lt T1.out)).trans T1.out)
  have B2 := hide (B1.out.trans (hb.mono B1.out.size))
  clear hb X1 T1 B1 HAS
  have a1 := cell_of_block T2.out 1
  have a2 := cell_of_block T2.out 2
  have a3 := cell_of_block T2.out 3
  go_wp2_with fail
  refine (HLV.out _ X2.out).mono ?_
  rintro e w3 ⟨rfl, rfl⟩
  go_wp2_with fail
  refine (HOP.out _ X2.out).mono ?_
  rintro e w3 ⟨rfl, rfl⟩
  go_wp2_with fail
  refine (HST.out _ X2.out).mono ?_
  rintro e w3 ⟨rfl, rfl⟩
  go_wp2_with fail
  refine (HSE.out _ X2.out).mono ?_
  rintro e w3 ⟨rfl, hp, ho⟩
  obtain ⟨hm, hb⟩ := HFR.out _ _ X2.out hp ho
  have X3 := hide hm
  have B3 := hide ((TurnM.of_below (mo := A.mo) B2.out HSZ.out).trans (TurnM.of_turnB hb))
  clear hp ho hm hb
  go_wp2_with fail
  go_ret
  exact ⟨rfl, X3.out, B3.out⟩
end
end Go.Proofs.YtjfmkfhjbdiojaaGreat

namespace Go.Proofs.YtjfmkfhjbdiojaaGreat
set_option linter.unusedSimpArgs false
set_option linter.unusedVariables false
open Go.RowKit Go.WideShapes Go.ChangeShapes Go.ChangeAt Go.Deep W

theorem full16_any (s : ByteArray) (hs : s.size ≤ 1000000) (n : Nat) (hn : n ≤ 2000) (w : World) :
    Calls Tryz.prog 13 #[.string s, .int .i64 (n : Int)] w fun e w' => e = .returned (.string (fullB s n)) ∧ Below w.heap.size w w' := by
  have HR := hide (show ∀ W, Calls Tryz.prog 38 #[.string ⟨#[85]⟩, .int .i64 (n : Int)] W fun e w' => e = .returned (.string (fillU n)) ∧ Below W.heap.size W w' from fun W => Tryz.strings_Repeat ⟨#[85]⟩ n W (by omega) (by show 1 * n ≤ _; omega))
  have hfs := fillU_size n
  have HF := hide (show fullB s n = (s ++ fillU n).extract 0 n from rfl)
  rw [HF.out]
  generalize fillU n = t at *
  have hsz : (s ++ t).size = s.size + n := by rw [ByteArray.size_append, hfs]
  have hle : (n : Int) ≤ (s.size : Int) + (t.size : Int) := by omega
  have hle2 : (n : Int) ≤ ((s ++ t).size : Int) := by rw [hsz]; omega
  have hno : ¬ 9223372036854775807 < s.size + t.size := by omega
  clear hfs HF
  go_enter Tryz.func13, Tryz.ntmps13
  go_wp2_with fail
  refine (HR.out _).mono ?_
  rintro e w1 ⟨rfl, hb⟩
  have HB := hide hb
  clear hb
  go_wp2_with fail
  go_ret
  exact ⟨rfl, HB.out⟩
theorem res_tct {P : Program} {fn : Func} {x p u : Tmp} {ty : TypeId} (h : fn.results = #[.tmp x, .cell p ty, .tmp u]) (tmps : Array Value) (w : World) (g : Nat) (ty2 : TypeId) (cs : Array Value) (fr : Nat × Nat) (d : TypeDesc)
    (hp : tmps.getD p undef = .pointer (some ⟨g, 0, none⟩)) (hg : w.heap[g]? = some (.cells cs ty2 fr)) (hu : P.underlying ty = some d) (hd : (match d with | .struct _ | .array _ _ => true | _ => false) = true) (hi : (P.info? ty).map (·.size) = some cs.size) :
    (results fn tmps).run P w = .ok (.tuple #[tmps.getD x undef, .agg cs, tmps.getD u undef]) w := by
  have hp' : tmps[p]?.getD undef = .pointer (some ⟨g, 0, none⟩) := by simpa using hp
  simp [results, h, hp', asAddr, run_loadVar_row w g ty2 ty cs fr d hg hu hd hi]
theorem rep_at {α : Type} (n : Nat) (x d : α) (k : Nat) (hk : k < n) : (List.replicate n x).getD k d = x := by simp [List.getD, List.getElem?_replicate, hk]
def mvX0 : MvS := ⟨newS 9 5 32, List.replicate 9 ⟨false, -1⟩, List.replicate 9 (1, 0), -1, 0, List.replicate 10 none, fun _ => (⟨0, 0, 0, 0, 0⟩, [])⟩
theorem mvX0_ok : HOk 9 5 32 0 mvX0 := by
  refine ⟨new_heal 9 5 32 (by decide) (by decide), ⟨newS_len _ _ _, rfl, rfl⟩, rfl, rfl, ?_, ?_, ?_, ?_, ⟨by decide, by decide⟩, .inl ⟨rfl, rfl⟩, ?_⟩
  · intro k hk
    show ((newS 9 5 32).blk k).pages.length = 5
    rw [newS_blk 9 5 32 k hk]
    exact List.length_replicate
  · intro k hk
    show ((List.replicate 9 (⟨false, -1⟩ : KnM)).getD k kn0).bad = false
    rw [rep_at _ _ _ _ hk]
  · intro k hk
    show 0 ≤ ((List.replicate 9 ((1 : Int), (0 : Int))).getD k (0, 0)).2 ∧ ((List.replicate 9 ((1 : Int), (0 : Int))).getD k (0, 0)).2 ≤ 0
    rw [rep_at _ _ _ _ hk]
    decide
  · intro k hk
    show ((List.replicate 9 ((1 : Int), (0 : Int))).getD k (0, 0)).1 = 1 ∨ _
    rw [rep_at _ _ _ _ hk]
    exact .inl rfl
  · intro l x hx
    have hx' : (List.replicate 10 (none : Option (Int × Int))).getD l none = some x := hx
    simp only [List.getD, List.getElem?_replicate] at hx'
    split at hx' <;> cases hx'
def Fresh16 (w : World) (e : Ending) (w' : World) : Prop := ∃ A : MvA, e = .returned (.tuple #[.pointer (some ⟨A.p, 0, none⟩), .agg #[.pointer (some ⟨A.d, 0, none⟩), .pointer (some ⟨A.pp, 0, none⟩), .pointer (some ⟨A.sb, 0, none⟩), .pointer (some ⟨A.mp, 0, none⟩)], .bool true]) ∧ MvAt w' w.heap.size A 9 5 mvX0 ∧ Below w.heap.size w w'
set_option maxRecDepth 100000 in
set_option maxHeartbeats 8000000 in
theorem fresh16 (w : World) : Calls Tryz.prog 6 #[] w (Fresh16 w) := by
  have HNEW := hide (fun W => new_go 9 5 32 (by decide) [] (.slice none 0 0) W (Or.inl ⟨rfl, rfl⟩) (by decide))
  have HD := hide (fun p q B G W (hW : NandAt W p q B G (newS 9 5 32)) => dnew_go W hW)
  have HP := hide (fun W => pnew_yes 9 (by decide) (by decide) W)
  have HB := hide (fun d b p q B G pp pq W (hD : DriveAt W d b p q B G (newS 9 5 32) (List.replicate 9 ⟨false, -1⟩)) (hP : PoolAt W pp pq (List.replicate 9 (1, 0))) => bnew_any 9 (by decide) W hD hP)
  have HW := hide (fun W => newW_yes 9 5 10 (by decide) (by decide) (by decide) (by decide) (by decide) (by decide) W)
  have HRI := hide (fun d pp sb mp W => mright_any (some ⟨d, 0, none⟩) (some ⟨pp, 0, none⟩) (some ⟨sb, 0, none⟩) (some ⟨mp, 0, none⟩) W)
  unfold NewW at HW
  unfold BNewIs at HB
  obtain ⟨B0, hB0⟩ : ∃ B0, w.heap.size = B0 := ⟨_, rfl⟩
  have HLOW := hide (show ∀ (W : World) (p q b d pp pq sb mp mq mo ml B : Nat) (G : Nat → Nat), StAt W B0 sb d b p q B G (newS 9 5 32) (List.replicate 9 ⟨false, -1⟩) pp pq (List.replicate 9 (1, 0)) (-1) 0 → WhereAt W mp mq mo ml 5 9 (List.replicate 10 none) → B0 ≤ mq → B0 ≤ mo → B0 ≤ ml → Below B0 w W → Fresh16 w (.returned (.tuple #[.pointer (some ⟨p, 0, none⟩), .agg #[.pointer (some ⟨d, 0, none⟩), .pointer (some ⟨pp, 0, none⟩), .pointer (some ⟨sb, 0, none⟩), .pointer (some ⟨mp, 0, none⟩)], .bool true])) W from by
    intro W p q b d pp pq sb mp mq mo ml B G hs hm h1 h2 h3 hb
    refine ⟨⟨sb, d, b, p, q, B, G, pp, pq, mp, mq, mo, ml⟩, rfl, ⟨?_, hm, ?_⟩, by rw [hB0]; exact hb⟩
    · rw [hB0]; exact hs
    · rw [hB0]; exact ⟨h1, h2, h3⟩)
  have B0w := hide ((Below.refl w.heap.size w).alloc (Nat.le_refl _) (.cells #[.pointer none, .pointer none, .pointer none, .pointer none] 29))
  rw [hB0] at B0w
  have Rw := hide (show (w.alloc (.cells #[.pointer none, .pointer none, .pointer none, .pointer none] 29)).heap[B0]? = some (.cells #[.pointer none, .pointer none, .pointer none, .pointer none] 29 (0, 0)) by rw [← hB0]; exact heap_new w _)
  have HSW := hide (show B0 + 1 = (w.alloc (.cells #[.pointer none, .pointer none, .pointer none, .pointer none] 29)).heap.size by rw [← hB0]; simp)
  generalize hX : Fresh16 w = Q at HLOW ⊢
  clear hX
  go_enter Tryz.func6, Tryz.ntmps6
  go_upto_region 1 with (fail)
  (try rw [hB0])
  have HEQ := hide hB0
  clear hB0
  generalize w.alloc (.cells #[.pointer none, .pointer none, .pointer none, .pointer none] 29) = w0 at *
  go_wp2_with fail
  refine (HNEW.out _).mono ?_
  rintro e w1 ⟨p, q, G, rfl, hn, hb⟩
  have HN := hide (show NandAt w1 p q w0.heap.size G (newS 9 5 32) from hn)
  have HB0 := hide (show B0 ≤ w0.heap.size from by have := HSW.out; omega)
  have B1 := hide (B0w.out.trans (hb.mono HB0.out))
  have R1 := hide ((hb.block _ (heap_lt Rw.out)).trans Rw.out)
  have HSB := hide (show B0 < w0.heap.size from by have := HSW.out; omega)
  clear hn HNEW hb Rw B0w HSW
  generalize w0.heap.size = B at *
  go_wp2_with fail
  refine (HD.out _ _ _ _ _ HN.out).mono ?_
  rintro e w2 ⟨d, b, rfl, hd, hb2, h1, h2⟩
  have D2 := hide (show DriveAt w2 d b p q B G (newS 9 5 32) (List.replicate 9 ⟨false, -1⟩) from hd)
  have HBB := hide (show B0 ≤ b from by have := B1.out.size; have := HEQ.out; omega)
  have B2 := hide (B1.out.trans (hb2.mono (by have := B1.out.size; have := HEQ.out; omega)))
  have R2 := hide ((hb2.block _ (heap_lt R1.out)).trans R1.out)
  clear hd hb2 h1 h2 HD HN R1 B1
  go_wp2_with fail
  refine (HP.out _).mono ?_
  rintro e w3 ⟨rfl, hp, hb⟩
  have P3 := hide hp
  have D3 := hide (D2.out.below hb)
  have B3 := hide (B2.out.trans (hb.mono (by have := B2.out.size; have := HEQ.out; omega)))
  have R3 := hide ((hb.block _ (heap_lt R2.out)).trans R2.out)
  have HPQ := hide (show B0 ≤ w2.heap.size from by have := B2.out.size; have := HEQ.out; omega)
  clear hp hb HP D2 R2 B2
  generalize w2.heap.size = pq at *
  obtain ⟨pp, hpp⟩ : ∃ pp, pq + 1 = pp := ⟨_, rfl⟩
  rw [hpp] at P3 ⊢
  clear hpp
  go_wp2_with fail
  refine (HB.out _ _ _ _ _ _ _ _ _ D3.out P3.out).mono ?_
  rintro e w4 ⟨hc, hb⟩
  have D4 := hide (D3.out.below hb)
  have P4 := hide (P3.out.below hb)
  have B4 := hide (B3.out.trans (hb.mono (by have := B3.out.size; have := HEQ.out; omega)))
  have R4 := hide ((hb.block _ (heap_lt R3.out)).trans R3.out)
  rcases hc with ⟨-, rfl, hs, hh⟩ | ⟨hne, -⟩
  · have S4 := hide (show StAt w4 B0 (w4.heap.size - 1) d b p q B G (newS 9 5 32) (List.replicate 9 ⟨false, -1⟩) pp pq (List.replicate 9 (1, 0)) (-1) 0 from ⟨hh, D4.out, P4.out, ⟨by have := B3.out.size; have := HEQ.out; omega, HB0.out, HBB.out, HPQ.out⟩⟩)
    clear hb hs hh D3 P3 B3 R3 D4 P4 HB
    generalize w4.heap.size - 1 = sb at *
    go_wp2_with fail
    refine (HW.out _).mono ?_
    rintro e w5 ⟨mp, mq, mo, ml, rfl, hm, hb, g1, g2, g3, g4⟩
    have S5 := hide (S4.out.below hb)
    have W5 := hide hm
    have R5 := hide ((hb.block _ (heap_lt R4.out)).trans R4.out)
    have B5 := hide (B4.out.trans (hb.mono (by have := B4.out.size; have := HEQ.out; omega)))
    have HG := hide (show B0 ≤ mq ∧ B0 ≤ mo ∧ B0 ≤ ml from by have := B4.out.size; have := HEQ.out; omega)
    clear hm hb g1 g2 g3 g4 S4 R4 B4 HW
    have HRI := hide (HRI.out d pp sb mp)
    go_upto_region 7 with (refine rw_store rfl 29 (.tmp 13) (.tmp 42) rfl w5.heap.size rfl #[.pointer (some ⟨d, 0, none⟩), .pointer (some ⟨pp, 0, none⟩), .pointer (some ⟨sb, 0, none⟩), .pointer (some ⟨mp, 0, none⟩)] rfl _ (heap_new w5 _) (by kernel_rfl) rfl (by simp [Value.oneCell']) ?_)
    have XB := hide (heap_new w5 (.cells #[.pointer none, .pointer none, .pointer none, .pointer none] 29))
    have hal := (Below.refl w5.heap.size w5).alloc (Nat.le_refl _) (.cells #[.pointer none, .pointer none, .pointer none, .pointer none] 29)
    have hbb := setRow_below (hal.trans (Below.refl _ _)) (Nat.le_refl _) hal.size (#[.pointer (some ⟨d, 0, none⟩), .pointer (some ⟨pp, 0, none⟩), .pointer (some ⟨sb, 0, none⟩), .pointer (some ⟨mp, 0, none⟩)] : Array Value)
    have M6 := hide (setRow_same (cs := (#[.pointer (some ⟨d, 0, none⟩), .pointer (some ⟨pp, 0, none⟩), .pointer (some ⟨sb, 0, none⟩), .pointer (some ⟨mp, 0, none⟩)] : Array Value)) XB.out)
    have S6 := hide (S5.out.below hbb)
    have W6 := hide (W5.out.below hbb)
    have R6 := hide ((hbb.block _ (heap_lt R5.out)).trans R5.out)
    have B6 := hide (B5.out.trans (hbb.mono (by have := B5.out.size; have := HEQ.out; omega)))
    have HRM := hide (show B0 ≠ w5.heap.size from by have := heap_lt R5.out; omega)
    clear hal hbb XB S5 W5 R5 B5
    generalize (w5.alloc (.cells #[.pointer none, .pointer none, .pointer none, .pointer none] 29)).setRow w5.heap.size (#[.pointer (some ⟨d, 0, none⟩), .pointer (some ⟨pp, 0, none⟩), .pointer (some ⟨sb, 0, none⟩), .pointer (some ⟨mp, 0, none⟩)] : Array Value) = w6 at *
    generalize w5.heap.size = mb at *
    have S0 := hide S6.out.drew
    have W0 := hide W6.out.drew
    have M0 := hide (show w6.drew.heap[mb]? = _ from M6.out)
    have R0 := hide (show w6.drew.heap[B0]? = _ from R6.out)
    have B0' := hide (show Below B0 w w6.drew from B6.out.drew)
    have HEND := hide (show ∀ W, W.heap[B0]? = some (.cells #[.pointer (some ⟨d, 0, none⟩), .pointer (some ⟨pp, 0, none⟩), .pointer (some ⟨sb, 0, none⟩), .pointer (some ⟨mp, 0, none⟩)] 29 (0, 0)) → StAt W B0 sb d b p q B G (newS 9 5 32) (List.replicate 9 ⟨false, -1⟩) pp pq (List.replicate 9 (1, 0)) (-1) 0 → WhereAt W mp mq mo ml 5 9 (List.replicate 10 none) → Below B0 w W → Q (.returned (.tuple #[.pointer (some ⟨p, 0, none⟩), .agg #[.pointer (some ⟨d, 0, none⟩), .pointer (some ⟨pp, 0, none⟩), .pointer (some ⟨sb, 0, none⟩), .pointer (some ⟨mp, 0, none⟩)], .bool true])) W from fun W _ hs hm hb => HLOW.out W p q b d pp pq sb mp mq mo ml B G hs hm HG.out.1 HG.out.2.1 HG.out.2.2 hb)
    have HRB := hide (Nat.le_refl B0)
    clear S6 W6 M6 R6 B6 HLOW HG HPQ HBB HB0 HSB
    clear HEQ
    generalize newS 9 5 32 = SS at *
    generalize List.replicate 9 (⟨false, -1⟩ : KnM) = KK at *
    generalize (List.replicate 9 ((1 : Int), (0 : Int))) = LL at *
    (try rw [show ∀ (a : Act) (v : Value), a.put none v = a from fun _ _ => rfl])
    refine wp_region_held_drew (S := (fun W => W.heap[mb]? = some (.cells #[.pointer (some ⟨d, 0, none⟩), .pointer (some ⟨pp, 0, none⟩), .pointer (some ⟨sb, 0, none⟩), .pointer (some ⟨mp, 0, none⟩)] 29 (0, 0)))) (by kernel_rfl) (M0.out) (fun hHeld => ?_)
    generalize w6.drew = v0 at *
    refine wpAnyH_take (i := 0) (oi := { dst := some 43, op := Op.move (Operand.tmp 3), type := 23, pos := "law.go:37", after := #[], guard := none }) (v := ?_) rfl (by kernel_rfl) (by kernel_rfl) (by kernel_rfl) (fun _ _ _ h => h) (Or.inl ⟨by kernel_rfl, ?_⟩) hHeld ?_
    rotate_left
    · (intro w hSw; (try dsimp only at hSw); have e0 := cell_of_block hSw 0; have e1 := cell_of_block hSw 1; have e2 := cell_of_block hSw 2; have e3 := cell_of_block hSw 3; go_simp); try with_reducible rfl
    try simp only [Act.put, List.setIfInBounds_toArray, List.set_cons_zero, List.set_cons_succ]
    refine wpAnyH_take (i := 1) (oi := { dst := some 44, op := Op.load 29 (Operand.tmp 13), type := 29, pos := "law.go:37", after := #[{ on := 24, ground := Ground.gcOnly Departure.lateStores }], guard := none }) (v := ?_) rfl (by kernel_rfl) (by kernel_rfl) (by kernel_rfl) (fun _ _ _ h => h) (Or.inl ⟨by kernel_rfl, ?_⟩) hHeld ?_
    rotate_left
    · (intro w hSw; (try dsimp only at hSw); have e0 := cell_of_block hSw 0; have e1 := cell_of_block hSw 1; have e2 := cell_of_block hSw 2; have e3 := cell_of_block hSw 3; go_simp); try with_reducible rfl
    try simp only [Act.put, List.setIfInBounds_toArray, List.set_cons_zero, List.set_cons_succ]
    refine wpAnyH_take (i := 2) (oi := { dst := some 45, op := Op.move (Operand.tmp 4), type := 35, pos := "law.go:37", after := #[], guard := none }) (v := ?_) rfl (by kernel_rfl) (by kernel_rfl) (by kernel_rfl) (fun _ _ _ h => h) (Or.inl ⟨by kernel_rfl, ?_⟩) hHeld ?_
    rotate_left
    · (intro w hSw; (try dsimp only at hSw); have e0 := cell_of_block hSw 0; have e1 := cell_of_block hSw 1; have e2 := cell_of_block hSw 2; have e3 := cell_of_block hSw 3; go_simp); try with_reducible rfl
    try simp only [Act.put, List.setIfInBounds_toArray, List.set_cons_zero, List.set_cons_succ]
    refine wpAnyH_take (i := 3) (oi := { dst := some 46, op := Op.binOp BinOp.eql 35 (Operand.tmp 45) (Operand.const (Value.int IntKind.i64 0)) 35, type := 4, pos := "law.go:37", after := #[{ on := 2, ground := Ground.data }], guard := none }) (v := ?_) rfl (by kernel_rfl) (by kernel_rfl) (by kernel_rfl) (fun _ _ _ h => h) (Or.inl ⟨by kernel_rfl, ?_⟩) hHeld ?_
    rotate_left
    · (intro w hSw; (try dsimp only at hSw); have e0 := cell_of_block hSw 0; have e1 := cell_of_block hSw 1; have e2 := cell_of_block hSw 2; have e3 := cell_of_block hSw 3; go_simp); try with_reducible rfl
    try simp only [Act.put, List.setIfInBounds_toArray, List.set_cons_zero, List.set_cons_succ]
    refine wpAnyH_take (i := 4) (oi := { dst := some 47, op := Op.move (Operand.tmp 46), type := 4, pos := "law.go:37", after := #[{ on := 3, ground := Ground.data }], guard := none }) (v := ?_) rfl (by kernel_rfl) (by kernel_rfl) (by kernel_rfl) (fun _ _ _ h => h) (Or.inl ⟨by kernel_rfl, ?_⟩) hHeld ?_
    rotate_left
    · (intro w hSw; (try dsimp only at hSw); have e0 := cell_of_block hSw 0; have e1 := cell_of_block hSw 1; have e2 := cell_of_block hSw 2; have e3 := cell_of_block hSw 3; go_simp); try with_reducible rfl
    try simp only [Act.put, List.setIfInBounds_toArray, List.set_cons_zero, List.set_cons_succ]
    refine wpAnyH_take (i := 5) (oi := { dst := some 48, op := Op.move (Operand.tmp 6), type := 35, pos := "law.go:37", after := #[{ on := 4, ground := Ground.guard }], guard := some (4, true) }) (v := ?_) rfl (by kernel_rfl) (by kernel_rfl) (by kernel_rfl) (fun _ _ _ h => h) (Or.inl ⟨by kernel_rfl, ?_⟩) hHeld ?_
    rotate_left
    · (intro w hSw; (try dsimp only at hSw); have e0 := cell_of_block hSw 0; have e1 := cell_of_block hSw 1; have e2 := cell_of_block hSw 2; have e3 := cell_of_block hSw 3; go_simp); try with_reducible rfl
    try simp only [Act.put, List.setIfInBounds_toArray, List.set_cons_zero, List.set_cons_succ]
    refine wpAnyH_take (i := 6) (oi := { dst := some 49, op := Op.binOp BinOp.eql 35 (Operand.tmp 48) (Operand.const (Value.int IntKind.i64 0)) 35, type := 4, pos := "law.go:37", after := #[{ on := 5, ground := Ground.data }, { on := 4, ground := Ground.guard }], guard := some (4, true) }) (v := ?_) rfl (by kernel_rfl) (by kernel_rfl) (by kernel_rfl) (fun _ _ _ h => h) (Or.inl ⟨by kernel_rfl, ?_⟩) hHeld ?_
    rotate_left
    · (intro w hSw; (try dsimp only at hSw); have e0 := cell_of_block hSw 0; have e1 := cell_of_block hSw 1; have e2 := cell_of_block hSw 2; have e3 := cell_of_block hSw 3; go_simp); try with_reducible rfl
    try simp only [Act.put, List.setIfInBounds_toArray, List.set_cons_zero, List.set_cons_succ]
    refine wpAnyH_take (i := 7) (oi := { dst := some 50, op := Op.pick (Operand.tmp 47) (Operand.tmp 49) (Operand.const (Value.bool false)), type := 4, pos := "law.go:37", after := #[{ on := 4, ground := Ground.data }, { on := 6, ground := Ground.data }], guard := none }) (v := ?_) rfl (by kernel_rfl) (by kernel_rfl) (by kernel_rfl) (fun _ _ _ h => h) (Or.inl ⟨by kernel_rfl, ?_⟩) hHeld ?_
    rotate_left
    · (intro w hSw; (try dsimp only at hSw); have e0 := cell_of_block hSw 0; have e1 := cell_of_block hSw 1; have e2 := cell_of_block hSw 2; have e3 := cell_of_block hSw 3; go_simp); try with_reducible rfl
    try simp only [Act.put, List.setIfInBounds_toArray, List.set_cons_zero, List.set_cons_succ]
    refine wpAnyH_take (i := 8) (oi := { dst := some 51, op := Op.move (Operand.tmp 50), type := 4, pos := "law.go:37", after := #[{ on := 7, ground := Ground.data }, { on := 4, ground := Ground.chain }], guard := none }) (v := ?_) rfl (by kernel_rfl) (by kernel_rfl) (by kernel_rfl) (fun _ _ _ h => h) (Or.inl ⟨by kernel_rfl, ?_⟩) hHeld ?_
    rotate_left
    · (intro w hSw; (try dsimp only at hSw); have e0 := cell_of_block hSw 0; have e1 := cell_of_block hSw 1; have e2 := cell_of_block hSw 2; have e3 := cell_of_block hSw 3; go_simp); try with_reducible rfl
    try simp only [Act.put, List.setIfInBounds_toArray, List.set_cons_zero, List.set_cons_succ]
    refine wpAnyH_take (i := 9) (oi := { dst := some 52, op := Op.move (Operand.tmp 8), type := 35, pos := "law.go:37", after := #[{ on := 8, ground := Ground.guard }], guard := some (8, true) }) (v := ?_) rfl (by kernel_rfl) (by kernel_rfl) (by kernel_rfl) (fun _ _ _ h => h) (Or.inl ⟨by kernel_rfl, ?_⟩) hHeld ?_
    rotate_left
    · (intro w hSw; (try dsimp only at hSw); have e0 := cell_of_block hSw 0; have e1 := cell_of_block hSw 1; have e2 := cell_of_block hSw 2; have e3 := cell_of_block hSw 3; go_simp); try with_reducible rfl
    try simp only [Act.put, List.setIfInBounds_toArray, List.set_cons_zero, List.set_cons_succ]
    refine wpAnyH_take (i := 10) (oi := { dst := some 53, op := Op.binOp BinOp.eql 35 (Operand.tmp 52) (Operand.const (Value.int IntKind.i64 0)) 35, type := 4, pos := "law.go:37", after := #[{ on := 9, ground := Ground.data }, { on := 8, ground := Ground.guard }], guard := some (8, true) }) (v := ?_) rfl (by kernel_rfl) (by kernel_rfl) (by kernel_rfl) (fun _ _ _ h => h) (Or.inl ⟨by kernel_rfl, ?_⟩) hHeld ?_
    rotate_left
    · (intro w hSw; (try dsimp only at hSw); have e0 := cell_of_block hSw 0; have e1 := cell_of_block hSw 1; have e2 := cell_of_block hSw 2; have e3 := cell_of_block hSw 3; go_simp); try with_reducible rfl
    try simp only [Act.put, List.setIfInBounds_toArray, List.set_cons_zero, List.set_cons_succ]
    refine wpAnyH_take (i := 11) (oi := { dst := some 54, op := Op.pick (Operand.tmp 51) (Operand.tmp 53) (Operand.const (Value.bool false)), type := 4, pos := "law.go:37", after := #[{ on := 8, ground := Ground.data }, { on := 10, ground := Ground.data }], guard := none }) (v := ?_) rfl (by kernel_rfl) (by kernel_rfl) (by kernel_rfl) (fun _ _ _ h => h) (Or.inl ⟨by kernel_rfl, ?_⟩) hHeld ?_
    rotate_left
    · (intro w hSw; (try dsimp only at hSw); have e0 := cell_of_block hSw 0; have e1 := cell_of_block hSw 1; have e2 := cell_of_block hSw 2; have e3 := cell_of_block hSw 3; go_simp); try with_reducible rfl
    try simp only [Act.put, List.setIfInBounds_toArray, List.set_cons_zero, List.set_cons_succ]
    refine wpAnyH_take (i := 12) (oi := { dst := some 55, op := Op.move (Operand.tmp 54), type := 4, pos := "law.go:37", after := #[{ on := 11, ground := Ground.data }, { on := 8, ground := Ground.chain }], guard := none }) (v := ?_) rfl (by kernel_rfl) (by kernel_rfl) (by kernel_rfl) (fun _ _ _ h => h) (Or.inl ⟨by kernel_rfl, ?_⟩) hHeld ?_
    rotate_left
    · (intro w hSw; (try dsimp only at hSw); have e0 := cell_of_block hSw 0; have e1 := cell_of_block hSw 1; have e2 := cell_of_block hSw 2; have e3 := cell_of_block hSw 3; go_simp); try with_reducible rfl
    try simp only [Act.put, List.setIfInBounds_toArray, List.set_cons_zero, List.set_cons_succ]
    refine wpAnyH_take (i := 13) (oi := { dst := some 56, op := Op.move (Operand.tmp 10), type := 35, pos := "law.go:37", after := #[{ on := 12, ground := Ground.guard }], guard := some (12, true) }) (v := ?_) rfl (by kernel_rfl) (by kernel_rfl) (by kernel_rfl) (fun _ _ _ h => h) (Or.inl ⟨by kernel_rfl, ?_⟩) hHeld ?_
    rotate_left
    · (intro w hSw; (try dsimp only at hSw); have e0 := cell_of_block hSw 0; have e1 := cell_of_block hSw 1; have e2 := cell_of_block hSw 2; have e3 := cell_of_block hSw 3; go_simp); try with_reducible rfl
    try simp only [Act.put, List.setIfInBounds_toArray, List.set_cons_zero, List.set_cons_succ]
    refine wpAnyH_take (i := 14) (oi := { dst := some 57, op := Op.binOp BinOp.eql 35 (Operand.tmp 56) (Operand.const (Value.int IntKind.i64 0)) 35, type := 4, pos := "law.go:37", after := #[{ on := 13, ground := Ground.data }, { on := 12, ground := Ground.guard }], guard := some (12, true) }) (v := ?_) rfl (by kernel_rfl) (by kernel_rfl) (by kernel_rfl) (fun _ _ _ h => h) (Or.inl ⟨by kernel_rfl, ?_⟩) hHeld ?_
    rotate_left
    · (intro w hSw; (try dsimp only at hSw); have e0 := cell_of_block hSw 0; have e1 := cell_of_block hSw 1; have e2 := cell_of_block hSw 2; have e3 := cell_of_block hSw 3; go_simp); try with_reducible rfl
    try simp only [Act.put, List.setIfInBounds_toArray, List.set_cons_zero, List.set_cons_succ]
    refine wpAnyH_take (i := 15) (oi := { dst := some 58, op := Op.pick (Operand.tmp 55) (Operand.tmp 57) (Operand.const (Value.bool false)), type := 4, pos := "law.go:37", after := #[{ on := 12, ground := Ground.data }, { on := 14, ground := Ground.data }], guard := none }) (v := ?_) rfl (by kernel_rfl) (by kernel_rfl) (by kernel_rfl) (fun _ _ _ h => h) (Or.inl ⟨by kernel_rfl, ?_⟩) hHeld ?_
    rotate_left
    · (intro w hSw; (try dsimp only at hSw); have e0 := cell_of_block hSw 0; have e1 := cell_of_block hSw 1; have e2 := cell_of_block hSw 2; have e3 := cell_of_block hSw 3; go_simp); try with_reducible rfl
    try simp only [Act.put, List.setIfInBounds_toArray, List.set_cons_zero, List.set_cons_succ]
    refine wpAnyH_take (i := 16) (oi := { dst := some 59, op := Op.move (Operand.tmp 58), type := 4, pos := "law.go:37", after := #[{ on := 15, ground := Ground.data }, { on := 12, ground := Ground.chain }], guard := none }) (v := ?_) rfl (by kernel_rfl) (by kernel_rfl) (by kernel_rfl) (fun _ _ _ h => h) (Or.inl ⟨by kernel_rfl, ?_⟩) hHeld ?_
    rotate_left
    · (intro w hSw; (try dsimp only at hSw); have e0 := cell_of_block hSw 0; have e1 := cell_of_block hSw 1; have e2 := cell_of_block hSw 2; have e3 := cell_of_block hSw 3; go_simp); try with_reducible rfl
    try simp only [Act.put, List.setIfInBounds_toArray, List.set_cons_zero, List.set_cons_succ]
    refine wpAnyH_take (i := 17) (oi := { dst := some 60, op := Op.move (Operand.tmp 12), type := 35, pos := "law.go:37", after := #[{ on := 16, ground := Ground.guard }], guard := some (16, true) }) (v := ?_) rfl (by kernel_rfl) (by kernel_rfl) (by kernel_rfl) (fun _ _ _ h => h) (Or.inl ⟨by kernel_rfl, ?_⟩) hHeld ?_
    rotate_left
    · (intro w hSw; (try dsimp only at hSw); have e0 := cell_of_block hSw 0; have e1 := cell_of_block hSw 1; have e2 := cell_of_block hSw 2; have e3 := cell_of_block hSw 3; go_simp); try with_reducible rfl
    try simp only [Act.put, List.setIfInBounds_toArray, List.set_cons_zero, List.set_cons_succ]
    refine wpAnyH_take (i := 18) (oi := { dst := some 61, op := Op.binOp BinOp.eql 35 (Operand.tmp 60) (Operand.const (Value.int IntKind.i64 0)) 35, type := 4, pos := "law.go:37", after := #[{ on := 17, ground := Ground.data }, { on := 16, ground := Ground.guard }], guard := some (16, true) }) (v := ?_) rfl (by kernel_rfl) (by kernel_rfl) (by kernel_rfl) (fun _ _ _ h => h) (Or.inl ⟨by kernel_rfl, ?_⟩) hHeld ?_
    rotate_left
    · (intro w hSw; (try dsimp only at hSw); have e0 := cell_of_block hSw 0; have e1 := cell_of_block hSw 1; have e2 := cell_of_block hSw 2; have e3 := cell_of_block hSw 3; go_simp); try with_reducible rfl
    try simp only [Act.put, List.setIfInBounds_toArray, List.set_cons_zero, List.set_cons_succ]
    refine wpAnyH_take (i := 19) (oi := { dst := some 62, op := Op.pick (Operand.tmp 59) (Operand.tmp 61) (Operand.const (Value.bool false)), type := 4, pos := "law.go:37", after := #[{ on := 16, ground := Ground.data }, { on := 18, ground := Ground.data }], guard := none }) (v := ?_) rfl (by kernel_rfl) (by kernel_rfl) (by kernel_rfl) (fun _ _ _ h => h) (Or.inl ⟨by kernel_rfl, ?_⟩) hHeld ?_
    rotate_left
    · (intro w hSw; (try dsimp only at hSw); have e0 := cell_of_block hSw 0; have e1 := cell_of_block hSw 1; have e2 := cell_of_block hSw 2; have e3 := cell_of_block hSw 3; go_simp); try with_reducible rfl
    try simp only [Act.put, List.setIfInBounds_toArray, List.set_cons_zero, List.set_cons_succ]
    refine wpAnyH_take (i := 20) (oi := { dst := some 63, op := Op.move (Operand.tmp 62), type := 4, pos := "law.go:37", after := #[{ on := 19, ground := Ground.data }, { on := 16, ground := Ground.chain }], guard := none }) (v := ?_) rfl (by kernel_rfl) (by kernel_rfl) (by kernel_rfl) (fun _ _ _ h => h) (Or.inl ⟨by kernel_rfl, ?_⟩) hHeld ?_
    rotate_left
    · (intro w hSw; (try dsimp only at hSw); have e0 := cell_of_block hSw 0; have e1 := cell_of_block hSw 1; have e2 := cell_of_block hSw 2; have e3 := cell_of_block hSw 3; go_simp); try with_reducible rfl
    try simp only [Act.put, List.setIfInBounds_toArray, List.set_cons_zero, List.set_cons_succ]
    refine wpAnyH_take (i := 21) (oi := { dst := some 64, op := Op.load 29 (Operand.tmp 13), type := 29, pos := "law.go:37", after := #[{ on := 20, ground := Ground.guard }], guard := some (20, true) }) (v := ?_) rfl (by kernel_rfl) (by kernel_rfl) (by kernel_rfl) (fun _ _ _ h => h) (Or.inl ⟨by kernel_rfl, ?_⟩) hHeld ?_
    rotate_left
    · (intro w hSw; (try dsimp only at hSw); have e0 := cell_of_block hSw 0; have e1 := cell_of_block hSw 1; have e2 := cell_of_block hSw 2; have e3 := cell_of_block hSw 3; go_simp); try with_reducible rfl
    try simp only [Act.put, List.setIfInBounds_toArray, List.set_cons_zero, List.set_cons_succ]
    refine wpAnyH_ready (rs := [22]) (by kernel_rfl) (by simp) (AllReadyH.cons (o := { dst := some 65, op := Op.call { callee := Callee.value (Operand.func 24), args := #[Operand.tmp 64], argTypes := #[29] }, type := 4, pos := "law.go:37", after := #[{ on := 21, ground := Ground.data }, { on := 20, ground := Ground.chain }, { on := 20, ground := Ground.guard }], guard := some (20, true) }) rfl (fun K hK => ?_) AllReadyH.nil)
    have hOld := hide hHeld
    clear hHeld
    go_simp
    refine (HRI.out _).mono ?_
    rintro e v1 ⟨rfl, hb⟩
    have S1 := hide (S0.out.below hb)
    have W1 := hide (W0.out.below hb)
    have M1 := hide ((hb.block _ (heap_lt M0.out)).trans M0.out)
    have R1 := hide ((hb.block _ (heap_lt R0.out)).trans R0.out)
    have B1 := hide (B0'.out.trans (hb.mono S0.out.size))
    clear hb
    (try go_wp2_with fail)
    refine hK.out _ _ (M1.out) (fun hHeld => ?_)
    clear hK K hOld
    try simp only [Act.put, List.setIfInBounds_toArray, List.set_cons_zero, List.set_cons_succ]
    refine wpAnyH_take (i := 23) (oi := { dst := some 66, op := Op.pick (Operand.tmp 63) (Operand.tmp 65) (Operand.const (Value.bool false)), type := 4, pos := "law.go:37", after := #[{ on := 20, ground := Ground.data }, { on := 22, ground := Ground.data }, { on := 25, ground := Ground.gcOnly Departure.lateStores }], guard := none }) (v := ?_) rfl (by kernel_rfl) (by kernel_rfl) (by kernel_rfl) (fun _ _ _ h => h) (Or.inl ⟨by kernel_rfl, ?_⟩) hHeld ?_
    rotate_left
    · (intro w hSw; (try dsimp only at hSw); have e0 := cell_of_block hSw 0; have e1 := cell_of_block hSw 1; have e2 := cell_of_block hSw 2; have e3 := cell_of_block hSw 3; go_simp); try with_reducible rfl
    try simp only [Act.put, List.setIfInBounds_toArray, List.set_cons_zero, List.set_cons_succ]
    refine wpAnyH_take (i := 24) (oi := { dst := some 0, op := Op.assign (Operand.tmp 43), type := 23, pos := "law.go:37", after := #[{ on := 0, ground := Ground.data }, { on := 22, ground := Ground.chain }, { on := 0, ground := Ground.phase }, { on := 1, ground := Ground.textOnly Departure.lateStores }, { on := 2, ground := Ground.textOnly Departure.lateStores }, { on := 3, ground := Ground.textOnly Departure.lateStores }, { on := 4, ground := Ground.textOnly Departure.lateStores }, { on := 5, ground := Ground.textOnly Departure.lateStores }, { on := 6, ground := Ground.textOnly Departure.lateStores }, { on := 7, ground := Ground.textOnly Departure.lateStores }, { on := 8, ground := Ground.textOnly Departure.lateStores }, { on := 9, ground := Ground.textOnly Departure.lateStores }, { on := 10, ground := Ground.textOnly Departure.lateStores }, { on := 11, ground := Ground.textOnly Departure.lateStores }, { on := 12, ground := Ground.textOnly Departure.lateStores }, { on := 13, ground := Ground.textOnly Departure.lateStores }, { on := 14, ground := Ground.textOnly Departure.lateStores }, { on := 15, ground := Ground.textOnly Departure.lateStores }, { on := 16, ground := Ground.textOnly Departure.lateStores }, { on := 17, ground := Ground.textOnly Departure.lateStores }, { on := 18, ground := Ground.textOnly Departure.lateStores }, { on := 19, ground := Ground.textOnly Departure.lateStores }, { on := 20, ground := Ground.textOnly Departure.lateStores }, { on := 21, ground := Ground.textOnly Departure.lateStores }, { on := 22, ground := Ground.textOnly Departure.lateStoresUnsure }, { on := 23, ground := Ground.textOnly Departure.lateStores }], guard := none }) (v := ?_) rfl (by kernel_rfl) (by kernel_rfl) (by kernel_rfl) (fun _ _ _ h => h) (Or.inl ⟨by kernel_rfl, ?_⟩) hHeld ?_
    rotate_left
    · (intro w hSw; (try dsimp only at hSw); have e0 := cell_of_block hSw 0; have e1 := cell_of_block hSw 1; have e2 := cell_of_block hSw 2; have e3 := cell_of_block hSw 3; go_simp); try with_reducible rfl
    try simp only [Act.put, List.setIfInBounds_toArray, List.set_cons_zero, List.set_cons_succ]
    refine wpAnyH_ready (rs := [25]) (by kernel_rfl) (by simp) (AllReadyH.cons (o := { dst := none, op := Op.store 29 (Operand.tmp 1) (Operand.tmp 44), type := 0, pos := "law.go:37", after := #[{ on := 1, ground := Ground.data }, { on := 24, ground := Ground.chain }, { on := 0, ground := Ground.phase }, { on := 1, ground := Ground.phase }, { on := 2, ground := Ground.textOnly Departure.lateStores }, { on := 3, ground := Ground.textOnly Departure.lateStores }, { on := 4, ground := Ground.textOnly Departure.lateStores }, { on := 5, ground := Ground.textOnly Departure.lateStores }, { on := 6, ground := Ground.textOnly Departure.lateStores }, { on := 7, ground := Ground.textOnly Departure.lateStores }, { on := 8, ground := Ground.textOnly Departure.lateStores }, { on := 9, ground := Ground.textOnly Departure.lateStores }, { on := 10, ground := Ground.textOnly Departure.lateStores }, { on := 11, ground := Ground.textOnly Departure.lateStores }, { on := 12, ground := Ground.textOnly Departure.lateStores }, { on := 13, ground := Ground.textOnly Departure.lateStores }, { on := 14, ground := Ground.textOnly Departure.lateStores }, { on := 15, ground := Ground.textOnly Departure.lateStores }, { on := 16, ground := Ground.textOnly Departure.lateStores }, { on := 17, ground := Ground.textOnly Departure.lateStores }, { on := 18, ground := Ground.textOnly Departure.lateStores }, { on := 19, ground := Ground.textOnly Departure.lateStores }, { on := 20, ground := Ground.textOnly Departure.lateStores }, { on := 21, ground := Ground.textOnly Departure.lateStores }, { on := 22, ground := Ground.textOnly Departure.lateStoresUnsure }, { on := 23, ground := Ground.textOnly Departure.lateStores }, { on := 24, ground := Ground.phase }], guard := none }) rfl (fun K hK => ?_) AllReadyH.nil)
    have hOld := hide hHeld
    clear hHeld
    refine rw_storeO 29 (.tmp 1) (.tmp 44) rfl B0 rfl #[.pointer (some ⟨d, 0, none⟩), .pointer (some ⟨pp, 0, none⟩), .pointer (some ⟨sb, 0, none⟩), .pointer (some ⟨mp, 0, none⟩)] rfl _ R1.out (by kernel_rfl) rfl (by simp [Value.oneCell']) ?_
    have KF := setRow_keeps (Ts := [29]) R1.out (by decide) (#[.pointer (some ⟨d, 0, none⟩), .pointer (some ⟨pp, 0, none⟩), .pointer (some ⟨sb, 0, none⟩), .pointer (some ⟨mp, 0, none⟩)] : Array Value)
    have R2 := hide (setRow_same (cs := (#[.pointer (some ⟨d, 0, none⟩), .pointer (some ⟨pp, 0, none⟩), .pointer (some ⟨sb, 0, none⟩), .pointer (some ⟨mp, 0, none⟩)] : Array Value)) R1.out)
    have S2 := hide (S1.out.keepsT KF (by decide) (by decide) (by decide) (by decide) (by decide) (by decide) (by decide) (by decide))
    have W2 := hide (W1.out.keepsT KF (by decide) (by decide) (by decide))
    have M2 := hide ((setRow_diff (cs := (#[.pointer (some ⟨d, 0, none⟩), .pointer (some ⟨pp, 0, none⟩), .pointer (some ⟨sb, 0, none⟩), .pointer (some ⟨mp, 0, none⟩)] : Array Value)) HRM.out).trans M1.out)
    have B2 := hide (setRow_below B1.out HRB.out S1.out.size (#[.pointer (some ⟨d, 0, none⟩), .pointer (some ⟨pp, 0, none⟩), .pointer (some ⟨sb, 0, none⟩), .pointer (some ⟨mp, 0, none⟩)] : Array Value))
    clear KF
    generalize v1.setRow B0 (#[.pointer (some ⟨d, 0, none⟩), .pointer (some ⟨pp, 0, none⟩), .pointer (some ⟨sb, 0, none⟩), .pointer (some ⟨mp, 0, none⟩)] : Array Value) = v2 at *
    refine hK.out _ _ (M2.out) (fun hHeld => ?_)
    clear hK K hOld
    try simp only [Act.put, List.setIfInBounds_toArray, List.set_cons_zero, List.set_cons_succ]
    refine wpAnyH_take (i := 26) (oi := { dst := some 2, op := Op.assign (Operand.tmp 66), type := 4, pos := "law.go:37", after := #[{ on := 23, ground := Ground.data }, { on := 25, ground := Ground.chain }, { on := 0, ground := Ground.phase }, { on := 1, ground := Ground.phase }, { on := 2, ground := Ground.phase }, { on := 3, ground := Ground.phase }, { on := 4, ground := Ground.phase }, { on := 5, ground := Ground.phase }, { on := 6, ground := Ground.phase }, { on := 7, ground := Ground.phase }, { on := 8, ground := Ground.phase }, { on := 9, ground := Ground.phase }, { on := 10, ground := Ground.phase }, { on := 11, ground := Ground.phase }, { on := 12, ground := Ground.phase }, { on := 13, ground := Ground.phase }, { on := 14, ground := Ground.phase }, { on := 15, ground := Ground.phase }, { on := 16, ground := Ground.phase }, { on := 17, ground := Ground.phase }, { on := 18, ground := Ground.phase }, { on := 19, ground := Ground.phase }, { on := 20, ground := Ground.phase }, { on := 21, ground := Ground.phase }, { on := 22, ground := Ground.phase }, { on := 23, ground := Ground.phase }, { on := 24, ground := Ground.phase }, { on := 25, ground := Ground.phase }], guard := none }) (v := ?_) rfl (by kernel_rfl) (by kernel_rfl) (by kernel_rfl) (fun _ _ _ h => h) (Or.inl ⟨by kernel_rfl, ?_⟩) hHeld ?_
    rotate_left
    · (intro w hSw; (try dsimp only at hSw); have e0 := cell_of_block hSw 0; have e1 := cell_of_block hSw 1; have e2 := cell_of_block hSw 2; have e3 := cell_of_block hSw 3; go_simp); try with_reducible rfl
    try simp only [Act.put, List.setIfInBounds_toArray, List.set_cons_zero, List.set_cons_succ]
    refine wpAnyH_done (by kernel_rfl) ?_ _
    clear hHeld
    go_wp2_with fail
    (try simp only [Exit.inBlock, Exit.then])
    refine bodyPost_ret (res_tct (P := Tryz.prog) rfl _ _ B0 29 (#[.pointer (some ⟨d, 0, none⟩), .pointer (some ⟨pp, 0, none⟩), .pointer (some ⟨sb, 0, none⟩), .pointer (some ⟨mp, 0, none⟩)] : Array Value) (0, 0) _ rfl R2.out Tryz.underlying29 rfl (by kernel_rfl)) rfl ?_
    exact HEND.out _ R2.out S2.out W2.out B2.out
  · exact absurd rfl hne
end Go.Proofs.YtjfmkfhjbdiojaaGreat

namespace Go.Proofs.YtjfmkfhjbdiojaaGreat
set_option linter.unusedSimpArgs false
set_option linter.unusedVariables false
open Go.RowKit Go.WideShapes Go.ChangeShapes Go.ChangeAt Go.Deep

theorem nums_at {w : World} {k : IntKind} {v : Value} {zs : List Int} (h : NumsAt w k v zs) : ∃ (a : Option Addr) (cap : Nat), v = .slice a zs.length cap ∧ zs.length ≤ cap ∧ ∀ i, i < zs.length → ∃ b off, a = some ⟨b, off, none⟩ ∧ b < w.heap.size ∧ w.cell? ⟨b, off + i, none⟩ = some (.int k (zs.getD i 0)) := by
  rcases h with ⟨rfl, rfl⟩ | ⟨b, off, cap, rfl, hc, hm, hp, hi⟩ | ⟨a, cap, rfl, rfl⟩
  · exact ⟨none, 0, rfl, Nat.le_refl _, fun i hi => by simp at hi⟩
  · exact ⟨some ⟨b, off, none⟩, cap, rfl, hc, fun i hil => ⟨b, off, rfl, World.block_lt_of_cell? w _ (hi i hil), hi i hil⟩⟩
  · exact ⟨some a, cap, rfl, Nat.zero_le _, fun i hi => by simp at hi⟩
theorem NumsAt.below {w w' : World} {k : IntKind} {v : Value} {zs : List Int} (h : NumsAt w k v zs) (hb : Below w.heap.size w w') : NumsAt w' k v zs := by
  rcases h with h | ⟨b, off, cap, rfl, hc, hm, hp, hi⟩ | h
  · exact .inl h
  · exact .inr (.inl ⟨b, off, cap, rfl, hc, hm, hp, fun i hil => cell_keep (hi i hil) (World.block_lt_of_cell? w _ (hi i hil)) hb⟩)
  · exact .inr (.inr h)
theorem NumsAt.drewN {w : World} {k : IntKind} {v : Value} {zs : List Int} (h : NumsAt w k v zs) (n : Nat) : NumsAt (w.drewN n) k v zs := h
set_option maxRecDepth 100000 in
theorem index_any (zs : List Int) (v : Value) (x : Int) (w : World) (hv : NumsAt w .i64 v zs) (hl : zs.length ≤ maxLen) :
    Calls Tryz.prog 85 #[v, .int .i64 x] w fun e w' => ∃ r : Int, e = .returned (.int .i64 r) ∧ (0 ≤ r ↔ x ∈ zs) ∧ w = w' := by
  obtain ⟨a, cap, rfl, hc, hat⟩ := nums_at hv
  have HAT := hide hat
  have hl63 : zs.length ≤ 9223372036854775807 := by unfold maxLen at hl; exact hl
  clear hat hv hl
  go_enter Tryz.func85, Tryz.ntmps85
  go_wp2_with fail
  go_loopw [8] (fun i W => ∃ k : Nat, k ≤ zs.length ∧ i = .int .i64 k ∧ x ∉ zs.take k ∧ w = W) (fun i _ => zs.length - (intOf i).toNat)
  case atStart => exact ⟨0, by omega, rfl, by simp, rfl⟩
  case round =>
    obtain ⟨k, hk, rfl, hx, rfl⟩ := hrel
    have HX := hide hx
    clear hx
    by_cases hlt : k < zs.length
    · obtain ⟨b, off, rfl, hb, c⟩ := HAT.out k hlt
      have HG := hide (show zs.take (k + 1) = zs.take k ++ [zs.getD k 0] by rw [List.take_add_one]; simp [List.getD, hlt])
      have HM := hide (show zs.getD k 0 ∈ zs by simp [List.getD, hlt])
      clear hb
      generalize zs.getD k 0 = y at *
      by_cases hxy : x = y
      · subst hxy
        go_wp2_with fail
        go_ret
        exact ⟨k, rfl, ⟨fun _ => HM.out, fun _ => by omega⟩, rfl⟩
      · go_wp2_with fail
        go_roundw
        case rel => exact ⟨k + 1, by omega, by go_num, by rw [HG.out]; simp only [List.mem_append, List.mem_singleton]; exact ⟨fun h => h.elim HX.out hxy, trivial⟩⟩
        case measure => simp [intOf]; omega
    · obtain rfl : k = zs.length := by omega
      rw [List.take_length] at HX
      go_wp2_with fail
      go_ret
      exact ⟨-1, rfl, ⟨fun h => by omega, fun h => absurd h HX.out⟩, rfl⟩
theorem contains_any (zs : List Int) (v : Value) (x : Int) (w : World) (hv : NumsAt w .i64 v zs) (hl : zs.length ≤ maxLen) :
    Calls Tryz.prog 51 #[v, .int .i64 x] w fun e w' => e = .returned (.bool (decide (x ∈ zs))) ∧ w = w' := by
  have HI := hide (index_any zs v x w hv hl)
  clear hv hl
  go_enter Tryz.func51, Tryz.ntmps51
  go_wp2_with fail
  refine HI.out.mono ?_
  rintro e w1 ⟨r, rfl, hr, rfl⟩
  have HR := hide hr
  clear hr
  go_wp2_with fail
  go_ret
  exact ⟨ret_bb (decide_eq_decide.2 HR.out), rfl⟩
/-- a function with a body is entered -/
def Enters (f : FuncId) : Prop := ∀ (args : Array Value) (W : World), (callFunc f args).run Tryz.prog W = .ok (.enter f args) W
theorem enters {f : FuncId} {fn : Func} {c : Code} (hf : Tryz.prog.funcs[f]? = some fn) (hname : (fn.name == "runtime.NumGoroutine") = false) (hb : fn.body = some c) : Enters f := fun args W => by
  have h1 : fn.name ≠ "runtime.NumGoroutine" := by simpa using hname
  simp [callFunc, hf, h1, hb]
/-- the block that no other one comes ahead of, of the first k -/
def firstK (may : Int → Bool) (ahead : Int → Int → Bool) : Nat → Int
  | 0 => -1
  | k + 1 => if may k = true ∧ (firstK may ahead k = -1 ∨ ahead k (firstK may ahead k) = true) then k else firstK may ahead k
theorem firstK_bd (may : Int → Bool) (ahead : Int → Int → Bool) : ∀ k : Nat, -1 ≤ firstK may ahead k ∧ firstK may ahead k < k
  | 0 => by simp [firstK]
  | k + 1 => by
    have := firstK_bd may ahead k
    rw [firstK]
    split <;> omega
set_option maxRecDepth 100000 in
set_option maxHeartbeats 400000 in
theorem vfirst_any (mf af : FuncId) (em : Enters mf) (ea : Enters af) (m1 m2 : Value) (ac : Array Value) (may : Int → Bool) (ahead : Int → Int → Bool) (I : World → Prop) (hI : ∀ W W', I W → Below W.heap.size W W' → I W')
    (hm : ∀ (b : Nat), b < 256 → ∀ W, I W → Calls Tryz.prog mf #[.int .i64 (b : Int), m1, m2] W fun e w' => e = .returned (.bool (may b)) ∧ Below W.heap.size W w')
    (ha : ∀ (b : Nat) (c : Int), b < 256 → 0 ≤ c → c < 256 → ∀ W, I W → Calls Tryz.prog af (#[.int .i64 (b : Int), .int .i64 c] ++ ac) W fun e w' => e = .returned (.bool (ahead b c)) ∧ Below W.heap.size W w')
    (w : World) (h : I w) :
    Calls Tryz.prog 52 #[.func (.func mf) #[] #[m1, m2], .func (.func af) #[] ac] w fun e w' => e = .returned (.int .i64 (firstK may ahead 256)) ∧ Below w.heap.size w w' := by
  have HI := hide hI
  have HM := hide hm
  have HA := hide ha
  unfold Enters at em ea
  have H0 := hide h
  clear hI hm ha h
  go_enter Tryz.func52, Tryz.ntmps52
  go_wp2_with fail
  go_loopw [5, 7] (fun s i W => ∃ k : Nat, k ≤ 256 ∧ i = .int .i64 k ∧ s = .int .i64 (firstK may ahead k) ∧ I W ∧ Below w.heap.size w W) (fun _ i _ => 256 - (intOf i).toNat)
  case atStart => exact ⟨0, by omega, rfl, rfl, H0.out, Below.refl _ _⟩
  case round =>
    obtain ⟨k, hk, rfl, rfl, hi, hb⟩ := hrel
    have IK := hide hi
    have BK := hide hb
    clear hi hb H0
    by_cases hlt : k < 256
    · have hbd := firstK_bd may ahead k
      have HN := hide (show firstK may ahead (k + 1) = if may k = true ∧ (firstK may ahead k = -1 ∨ ahead k (firstK may ahead k) = true) then (k : Int) else firstK may ahead k from rfl)
      go_wp2_with fail
      refine (HM.out k hlt wr IK.out).mono ?_
      rintro e w1 ⟨rfl, hb⟩
      have I1 := hide (HI.out _ _ IK.out hb)
      have B1 := hide (BK.out.trans (hb.mono BK.out.size))
      clear hb IK BK
      generalize hmk : may (k : Int) = mk at *
      cases mk with
      | false =>
        go_wp2_with fail
        go_roundw
        case rel => exact ⟨k + 1, by omega, by go_num, by rw [HN.out, if_neg (fun h => absurd h.1 (by decide))], I1.out, B1.out⟩
        case measure => simp [intOf]; omega
      | true =>
        generalize firstK may ahead k = z at *
        by_cases hz : z = -1
        · subst hz
          go_wp2_with fail
          go_roundw
          case rel => exact ⟨k + 1, by omega, by go_num, by rw [HN.out, if_pos (by simp)], I1.out, B1.out⟩
          case measure => simp [intOf]; omega
        · go_wp2_with fail
          refine (HA.out k z hlt (by omega) (by omega) w1 I1.out).mono ?_
          rintro e w2 ⟨rfl, hb⟩
          have I2 := hide (HI.out _ _ I1.out hb)
          have B2 := hide (B1.out.trans (hb.mono B1.out.size))
          clear hb I1 B1
          generalize hma : ahead (k : Int) z = ma at *
          cases ma with
          | false =>
            go_wp2_with fail
            go_roundw
            case rel => exact ⟨k + 1, by omega, by go_num, by rw [HN.out, if_neg (fun h => h.2.elim hz (by decide))], I2.out, B2.out⟩
            case measure => simp [intOf]; omega
          | true =>
            go_wp2_with fail
            go_roundw
            case rel => exact ⟨k + 1, by omega, by go_num, by rw [HN.out, if_pos (by simp)], I2.out, B2.out⟩
            case measure => simp [intOf]; omega
    · obtain rfl : k = 256 := by omega
      rw [show ((256 : Nat) : Int) = 256 from rfl]
      go_wp2_with fail
      go_ret
      exact ⟨rfl, BK.out⟩
end Go.Proofs.YtjfmkfhjbdiojaaGreat

namespace Go.Proofs.YtjfmkfhjbdiojaaGreat
set_option linter.unusedSimpArgs false
set_option linter.unusedVariables false
open Go.RowKit Go.WideShapes Go.ChangeShapes Go.ChangeAt Go.Deep W

theorem PoolAt.drewN {w : World} {p q : Nat} {L : List (Int × Int)} (h : PoolAt w p q L) (n : Nat) : PoolAt (w.drewN n) p q L := ⟨h.head, h.row, h.ne⟩
def lvZ (S : Spots) (nb : Nat) (b : Int) : Int := if 0 ≤ b ∧ b < nb then ((liveN S b : Nat) : Int) else 0
theorem live_any {w : World} {p q o l : Nat} {pg : Int} {nb : Nat} {S : Spots} (h : WhereAt w p q o l pg nb S) (b : Int) :
    Calls Tryz.prog 54 #[.pointer (some ⟨p, 0, none⟩), .int .i64 b] w fun e w' => e = .returned (.int .i64 (lvZ S nb b)) ∧ w = w' := by
  unfold lvZ
  by_cases hb : 0 ≤ b ∧ b < nb
  · obtain ⟨n, rfl⟩ := Int.eq_ofNat_of_zero_le hb.1
    rw [if_pos hb]
    exact live_yes h n (by omega)
  · rw [if_neg hb]
    exact live_no h b (by omega)
/-- what the closures look at -/
structure VicP (W : World) (pb p q : Nat) (L : List (Int × Int)) : Prop where
  pool : PoolAt W p q L
  pbox : W.heap[pb]? = some (.cells #[.pointer (some ⟨p, 0, none⟩)] 25 (0, 0))
theorem VicP.below {W W' : World} {pb p q : Nat} {L : List (Int × Int)} (h : VicP W pb p q L) (hb : Below W.heap.size W W') : VicP W' pb p q L :=
  ⟨h.pool.below hb, (hb.block _ (heap_lt h.pbox)).trans h.pbox⟩
structure VicS (W : World) (sb : Nat) (sv : Value) (skip : List Int) : Prop where
  sbox : W.heap[sb]? = some (.cells #[sv] 59 (0, 0))
  nums : NumsAt W .i64 sv skip
theorem VicS.below {W W' : World} {sb : Nat} {sv : Value} {skip : List Int} (h : VicS W sb sv skip) (hb : Below W.heap.size W W') : VicS W' sb sv skip :=
  ⟨(hb.block _ (heap_lt h.sbox)).trans h.sbox, h.nums.below hb⟩
structure VicM (W : World) (mb m q o l : Nat) (pg : Int) (nb : Nat) (S : Spots) : Prop where
  map : WhereAt W m q o l pg nb S
  mbox : W.heap[mb]? = some (.cells #[.pointer (some ⟨m, 0, none⟩)] 27 (0, 0))
theorem VicM.below {W W' : World} {mb m q o l : Nat} {pg : Int} {nb : Nat} {S : Spots} (h : VicM W mb m q o l pg nb S) (hb : Below W.heap.size W W') : VicM W' mb m q o l pg nb S :=
  ⟨h.map.below hb, (hb.block _ (heap_lt h.mbox)).trans h.mbox⟩

def usedB (L : List (Int × Int)) (skip : List Int) (b : Int) : Bool := decide (fstZ L b = 2) && !decide (b ∈ skip)
def goodB (L : List (Int × Int)) (skip : List Int) (b : Int) : Bool := (decide (fstZ L b = 1) || decide (fstZ L b = 2)) && !decide (b ∈ skip)
def aheadC (L : List (Int × Int)) (S : Spots) (nb : Nat) (a b : Int) : Bool := if lvZ S nb a ≠ lvZ S nb b then decide (lvZ S nb a < lvZ S nb b) else decide (sndZ L a < sndZ L b)
def lessB (L : List (Int × Int)) (a b : Int) : Bool := decide (sndZ L a < sndZ L b)
def moreB (L : List (Int × Int)) (a b : Int) : Bool := decide (sndZ L a > sndZ L b)
set_option maxRecDepth 100000 in
theorem used_any (pb p q sb : Nat) (L : List (Int × Int)) (sv : Value) (skip : List Int) (hl : skip.length ≤ maxLen) (b : Int) (w : World) (hp : VicP w pb p q L) (hs : VicS w sb sv skip) :
    Calls Tryz.prog 49 #[.int .i64 b, .pointer (some ⟨pb, 0, none⟩), .pointer (some ⟨sb, 0, none⟩)] w fun e w' => e = .returned (.bool (usedB L skip b)) ∧ Below w.heap.size w w' := by
  have HST := hide (state_any p q L b w hp.pool)
  have HCO := hide (contains_any skip sv b w hs.nums hl)
  have HU := hide (show usedB L skip b = (decide (fstZ L b = 2) && !decide (b ∈ skip)) from rfl)
  have c0 := cell_of_block hp.pbox 0
  have d0 := cell_of_block hs.sbox 0
  clear hp hs
  generalize fstZ L b = x at *
  go_enter Tryz.func49, Tryz.ntmps49
  go_wp2_with fail
  refine HST.out.mono ?_
  rintro e w1 ⟨rfl, rfl⟩
  by_cases hx : x = 2
  · subst hx
    go_wp2_with fail
    refine HCO.out.mono ?_
    rintro e w1 ⟨rfl, rfl⟩
    go_wp2_with fail
    go_ret
    exact ⟨ret_bb (by rw [HU.out]; simp), Below.refl _ _⟩
  · go_wp2_with fail
    go_ret
    exact ⟨ret_bb (by rw [HU.out]; simp [hx]), Below.refl _ _⟩
set_option maxRecDepth 100000 in
theorem good_any (pb p q sb : Nat) (L : List (Int × Int)) (sv : Value) (skip : List Int) (hl : skip.length ≤ maxLen) (b : Int) (w : World) (hp : VicP w pb p q L) (hs : VicS w sb sv skip) :
    Calls Tryz.prog 81 #[.int .i64 b, .pointer (some ⟨pb, 0, none⟩), .pointer (some ⟨sb, 0, none⟩)] w fun e w' => e = .returned (.bool (goodB L skip b)) ∧ Below w.heap.size w w' := by
  have HST := hide (state_any p q L b w hp.pool)
  have HCO := hide (contains_any skip sv b w hs.nums hl)
  have HU := hide (show goodB L skip b = ((decide (fstZ L b = 1) || decide (fstZ L b = 2)) && !decide (b ∈ skip)) from rfl)
  have c0 := cell_of_block hp.pbox 0
  have d0 := cell_of_block hs.sbox 0
  clear hp hs
  generalize fstZ L b = x at *
  go_enter Tryz.func81, Tryz.ntmps81
  go_wp2_with fail
  refine HST.out.mono ?_
  rintro e w1 ⟨rfl, rfl⟩
  by_cases hx1 : x = 1
  · subst hx1
    go_wp2_with fail
    refine HCO.out.mono ?_
    rintro e w1 ⟨rfl, rfl⟩
    go_wp2_with fail
    go_ret
    exact ⟨ret_bb (by rw [HU.out]; simp), Below.refl _ _⟩
  · by_cases hx : x = 2
    · subst hx
      go_wp2_with fail
      refine HCO.out.mono ?_
      rintro e w1 ⟨rfl, rfl⟩
      go_wp2_with fail
      go_ret
      exact ⟨ret_bb (by rw [HU.out]; simp), Below.refl _ _⟩
    · go_wp2_with fail
      go_ret
      exact ⟨ret_bb (by rw [HU.out]; simp [hx, hx1]), Below.refl _ _⟩
set_option maxRecDepth 100000 in
theorem less_any (pb p q : Nat) (L : List (Int × Int)) (a b : Int) (w : World) (hp : VicP w pb p q L) :
    Calls Tryz.prog 82 #[.int .i64 a, .int .i64 b, .pointer (some ⟨pb, 0, none⟩)] w fun e w' => e = .returned (.bool (lessB L a b)) ∧ Below w.heap.size w w' := by
  have HW := hide hp.pool
  have c0 := cell_of_block hp.pbox 0
  have HA := hide (show lessB L a b = decide (sndZ L a < sndZ L b) from rfl)
  have HWA := hide (fun n => wear_any p q L a _ (HW.out.drewN n))
  have HWB := hide (fun n => wear_any p q L b _ (HW.out.drewN n))
  clear hp
  generalize sndZ L a = u at *
  generalize sndZ L b = v at *
  go_enter Tryz.func82, Tryz.ntmps82
  go_wp2
  go_quiet ((first | (go_at_call 55; with_reducible exact quiet_eq (HWA.out _)) | (go_at_call 55; with_reducible exact quiet_eq (HWB.out _))))
  go_wp2
  go_ret
  exact ⟨ret_bb HA.out.symm, (Below.refl _ _).drewN _⟩
set_option maxRecDepth 100000 in
theorem vmore_any (pb p q : Nat) (L : List (Int × Int)) (a b : Int) (w : World) (hp : VicP w pb p q L) :
    Calls Tryz.prog 83 #[.int .i64 a, .int .i64 b, .pointer (some ⟨pb, 0, none⟩)] w fun e w' => e = .returned (.bool (moreB L a b)) ∧ Below w.heap.size w w' := by
  have HW := hide hp.pool
  have c0 := cell_of_block hp.pbox 0
  have HA := hide (show moreB L a b = decide (sndZ L a > sndZ L b) from rfl)
  have HWA := hide (fun n => wear_any p q L a _ (HW.out.drewN n))
  have HWB := hide (fun n => wear_any p q L b _ (HW.out.drewN n))
  clear hp
  generalize sndZ L a = u at *
  generalize sndZ L b = v at *
  go_enter Tryz.func83, Tryz.ntmps83
  go_wp2
  go_quiet ((first | (go_at_call 55; with_reducible exact quiet_eq (HWA.out _)) | (go_at_call 55; with_reducible exact quiet_eq (HWB.out _))))
  go_wp2
  go_ret
  exact ⟨ret_bb HA.out.symm, (Below.refl _ _).drewN _⟩
set_option maxRecDepth 100000 in
theorem aheadC_any (pb p q mb m q' o l : Nat) (L : List (Int × Int)) (pg : Int) (nb : Nat) (S : Spots) (a b : Int) (w : World) (hp : VicP w pb p q L) (hm : VicM w mb m q' o l pg nb S) :
    Calls Tryz.prog 53 #[.int .i64 a, .int .i64 b, .pointer (some ⟨mb, 0, none⟩), .pointer (some ⟨pb, 0, none⟩)] w fun e w' => e = .returned (.bool (aheadC L S nb a b)) ∧ Below w.heap.size w w' := by
  have HW := hide hp.pool
  have HM := hide hm.map
  have c0 := cell_of_block hp.pbox 0
  have d0 := cell_of_block hm.mbox 0
  have HA := hide (show aheadC L S nb a b = if lvZ S nb a ≠ lvZ S nb b then decide (lvZ S nb a < lvZ S nb b) else decide (sndZ L a < sndZ L b) from rfl)
  have HLA := hide (fun W (h : WhereAt W m q' o l pg nb S) => live_any h a)
  have HLB := hide (fun W (h : WhereAt W m q' o l pg nb S) => live_any h b)
  have HWA := hide (fun W (h : PoolAt W p q L) => wear_any p q L a W h)
  have HWB := hide (fun W (h : PoolAt W p q L) => wear_any p q L b W h)
  clear hp hm
  generalize lvZ S nb a = x at *
  generalize lvZ S nb b = y at *
  generalize sndZ L a = u at *
  generalize sndZ L b = v at *
  go_enter Tryz.func53, Tryz.ntmps53
  go_wp2
  go_quiet ((first | (go_at_call 54; with_reducible exact quiet_eq (HLA.out _ (HM.out.drewN _))) | (go_at_call 54; with_reducible exact quiet_eq (HLB.out _ (HM.out.drewN _)))))
  rename_i nq
  have HW := hide (HW.out.drewN nq)
  have HM := hide (HM.out.drewN nq)
  have c0 : (w.drewN nq).cell? ⟨pb, 0, none⟩ = some (.pointer (some ⟨p, 0, none⟩)) := c0
  have d0 : (w.drewN nq).cell? ⟨mb, 0, none⟩ = some (.pointer (some ⟨m, 0, none⟩)) := d0
  have B0 := hide ((Below.refl w.heap.size w).drewN nq)
  generalize w.drewN nq = w1 at *
  by_cases hxy : x = y
  · go_wp2
    go_quiet ((first | (go_at_call 55; with_reducible exact quiet_eq (HWA.out _ (HW.out.drewN _))) | (go_at_call 55; with_reducible exact quiet_eq (HWB.out _ (HW.out.drewN _)))))
    go_wp2
    go_ret
    exact ⟨ret_bb (by rw [HA.out, if_neg (fun h => h hxy)]), B0.out.drewN _⟩
  · go_wp2
    go_quiet ((first | (go_at_call 54; with_reducible exact quiet_eq (HLA.out _ (HM.out.drewN _))) | (go_at_call 54; with_reducible exact quiet_eq (HLB.out _ (HM.out.drewN _)))))
    go_wp2
    go_ret
    exact ⟨ret_bb (by rw [HA.out, if_pos hxy]), B0.out.drewN _⟩
end Go.Proofs.YtjfmkfhjbdiojaaGreat

namespace Go.Proofs.YtjfmkfhjbdiojaaGreat
set_option linter.unusedSimpArgs false
set_option linter.unusedVariables false
open Go.RowKit Go.WideShapes Go.ChangeShapes Go.ChangeAt Go.Deep W

def chooseK (L : List (Int × Int)) (S : Spots) (nb : Nat) (skip : List Int) : Int := firstK (usedB L skip) (aheadC L S nb) 256
def lowK (L : List (Int × Int)) (skip : List Int) : Int := firstK (goodB L skip) (lessB L) 256
def highK (L : List (Int × Int)) (skip : List Int) : Int := firstK (goodB L skip) (moreB L) 256
theorem firstK_256 (may : Int → Bool) (ahead : Int → Int → Bool) : -1 ≤ firstK may ahead 256 ∧ firstK may ahead 256 < 256 := firstK_bd may ahead 256
theorem ret_ib {a a' : Int} {b b' : Bool} (h1 : a' = a) (h2 : b' = b) : Ending.returned (.tuple #[.int .i64 a, .bool b]) = .returned (.tuple #[.int .i64 a', .bool b']) := by rw [h1, h2]
theorem enters_used : Enters 49 := enters Tryz.func49 (by kernel_rfl) rfl
theorem enters_ahead : Enters 53 := enters Tryz.func53 (by kernel_rfl) rfl
theorem enters_good : Enters 81 := enters Tryz.func81 (by kernel_rfl) rfl
theorem enters_less : Enters 82 := enters Tryz.func82 (by kernel_rfl) rfl
theorem enters_more : Enters 83 := enters Tryz.func83 (by kernel_rfl) rfl
theorem first_choose (pb p q mb m q' o l sb : Nat) (L : List (Int × Int)) (pg : Int) (nb : Nat) (S : Spots) (sv : Value) (skip : List Int) (hl : skip.length ≤ maxLen) (w : World) (hp : VicP w pb p q L) (hm : VicM w mb m q' o l pg nb S) (hs : VicS w sb sv skip) :
    Calls Tryz.prog 52 #[.func (.func 49) #[] #[.pointer (some ⟨pb, 0, none⟩), .pointer (some ⟨sb, 0, none⟩)], .func (.func 53) #[] #[.pointer (some ⟨mb, 0, none⟩), .pointer (some ⟨pb, 0, none⟩)]] w fun e w' => e = .returned (.int .i64 (chooseK L S nb skip)) ∧ Below w.heap.size w w' := by
  unfold chooseK
  exact vfirst_any 49 53 enters_used enters_ahead (.pointer (some ⟨pb, 0, none⟩)) (.pointer (some ⟨sb, 0, none⟩)) #[.pointer (some ⟨mb, 0, none⟩), .pointer (some ⟨pb, 0, none⟩)] (usedB L skip) (aheadC L S nb) (fun W => VicP W pb p q L ∧ VicM W mb m q' o l pg nb S ∧ VicS W sb sv skip) (fun W W' h hb => ⟨h.1.below hb, h.2.1.below hb, h.2.2.below hb⟩)
    (fun b _ W h => used_any pb p q sb L sv skip hl b W h.1 h.2.2) (fun b c _ _ _ W h => aheadC_any pb p q mb m q' o l L pg nb S b c W h.1 h.2.1) w ⟨hp, hm, hs⟩
theorem first_low (pb p q sb : Nat) (L : List (Int × Int)) (sv : Value) (skip : List Int) (hl : skip.length ≤ maxLen) (w : World) (hp : VicP w pb p q L) (hs : VicS w sb sv skip) :
    Calls Tryz.prog 52 #[.func (.func 81) #[] #[.pointer (some ⟨pb, 0, none⟩), .pointer (some ⟨sb, 0, none⟩)], .func (.func 82) #[] #[.pointer (some ⟨pb, 0, none⟩)]] w fun e w' => e = .returned (.int .i64 (lowK L skip)) ∧ Below w.heap.size w w' := by
  unfold lowK
  exact vfirst_any 81 82 enters_good enters_less (.pointer (some ⟨pb, 0, none⟩)) (.pointer (some ⟨sb, 0, none⟩)) #[.pointer (some ⟨pb, 0, none⟩)] (goodB L skip) (lessB L) (fun W => VicP W pb p q L ∧ VicS W sb sv skip) (fun W W' h hb => ⟨h.1.below hb, h.2.below hb⟩)
    (fun b _ W h => good_any pb p q sb L sv skip hl b W h.1 h.2) (fun b c _ _ _ W h => less_any pb p q L b c W h.1) w ⟨hp, hs⟩
theorem first_high (pb p q sb : Nat) (L : List (Int × Int)) (sv : Value) (skip : List Int) (hl : skip.length ≤ maxLen) (w : World) (hp : VicP w pb p q L) (hs : VicS w sb sv skip) :
    Calls Tryz.prog 52 #[.func (.func 81) #[] #[.pointer (some ⟨pb, 0, none⟩), .pointer (some ⟨sb, 0, none⟩)], .func (.func 83) #[] #[.pointer (some ⟨pb, 0, none⟩)]] w fun e w' => e = .returned (.int .i64 (highK L skip)) ∧ Below w.heap.size w w' := by
  unfold highK
  exact vfirst_any 81 83 enters_good enters_more (.pointer (some ⟨pb, 0, none⟩)) (.pointer (some ⟨sb, 0, none⟩)) #[.pointer (some ⟨pb, 0, none⟩)] (goodB L skip) (moreB L) (fun W => VicP W pb p q L ∧ VicS W sb sv skip) (fun W W' h hb => ⟨h.1.below hb, h.2.below hb⟩)
    (fun b _ W h => good_any pb p q sb L sv skip hl b W h.1 h.2) (fun b c _ _ _ W h => vmore_any pb p q L b c W h.1) w ⟨hp, hs⟩
def chooseZ (L : List (Int × Int)) (S : Spots) (nb : Nat) (skip : List Int) : Int × Bool := if chooseK L S nb skip = -1 then (0, false) else (chooseK L S nb skip, true)
def coldZ (L : List (Int × Int)) (level : Int) (skip : List Int) : Int × Bool :=
  if level < 1 ∨ lowK L skip = -1 ∨ fstZ L (lowK L skip) ≠ 2 ∨ sndZ L (highK L skip) - sndZ L (lowK L skip) < level then (0, false) else (lowK L skip, true)
set_option maxRecDepth 100000 in
theorem choose_nilP (m : Option Addr) (a : Option Addr) (n cap : Nat) (w : World) : Calls Tryz.prog 26 #[.pointer none, .pointer m, .slice a n cap] w fun e w' => e = .returned (.tuple #[.int .i64 0, .bool false]) ∧ Below w.heap.size w w' := by
  go_enter Tryz.func26, Tryz.ntmps26
  go_wp2_with fail
  go_ret2
  exact ⟨rfl, by go_grown⟩
set_option maxRecDepth 100000 in
theorem choose_nilM (p : Addr) (a : Option Addr) (n cap : Nat) (w : World) : Calls Tryz.prog 26 #[.pointer (some p), .pointer none, .slice a n cap] w fun e w' => e = .returned (.tuple #[.int .i64 0, .bool false]) ∧ Below w.heap.size w w' := by
  go_enter Tryz.func26, Tryz.ntmps26
  go_wp2_with fail
  go_ret2
  exact ⟨rfl, by go_grown⟩
set_option maxRecDepth 100000 in
theorem cold_nil (lv : Int) (a : Option Addr) (n cap : Nat) (w : World) : Calls Tryz.prog 39 #[.pointer none, .int .i64 lv, .slice a n cap] w fun e w' => e = .returned (.tuple #[.int .i64 0, .bool false]) ∧ Below w.heap.size w w' := by
  go_enter Tryz.func39, Tryz.ntmps39
  go_wp2_with fail
  go_ret2
  exact ⟨rfl, by go_grown⟩
theorem short_nil (n : Int) (w : World) : Calls Tryz.prog 8 #[.pointer none, .int .i64 n] w fun e w' => e = .returned (.bool false) ∧ Below w.heap.size w w' := by
  go_enter Tryz.func8, Tryz.ntmps8
  go_wp2_with fail
  go_ret
  exact ⟨rfl, Below.refl _ _⟩
theorem short_any (p q : Nat) (L : List (Int × Int)) (hl : L.length ≤ 1000000) (n : Int) (w : World) (h : PoolAt w p q L) :
    Calls Tryz.prog 8 #[.pointer (some ⟨p, 0, none⟩), .int .i64 n] w fun e w' => e = .returned (.bool (decide ((cntK L 1 L.length : Int) < n))) ∧ Below w.heap.size w w' := by
  have HC := hide (pcount_any p q L hl 1 w h)
  clear h
  generalize cntK L 1 L.length = c at *
  go_enter Tryz.func8, Tryz.ntmps8
  go_wp2_with fail
  refine HC.out.mono ?_
  rintro e w1 ⟨rfl, hb⟩
  have B1 := hide hb
  clear hb
  go_wp2_with fail
  go_ret
  exact ⟨rfl, B1.out⟩
set_option maxRecDepth 100000 in
theorem choose_any (p q m q' o l : Nat) (L : List (Int × Int)) (pg : Int) (nb : Nat) (S : Spots) (sv : Value) (skip : List Int) (hl : skip.length ≤ maxLen) (w : World) (hp : PoolAt w p q L) (hm : WhereAt w m q' o l pg nb S) (hs : NumsAt w .i64 sv skip) :
    Calls Tryz.prog 26 #[.pointer (some ⟨p, 0, none⟩), .pointer (some ⟨m, 0, none⟩), sv] w fun e w' => e = .returned (.tuple #[.int .i64 (chooseZ L S nb skip).1, .bool (chooseZ L S nb skip).2]) ∧ Below w.heap.size w w' := by
  obtain ⟨a, cap, rfl, -, -⟩ := nums_at hs
  have HP := hide hp
  have HM := hide hm
  have HS := hide hs
  have HF := hide (fun pb mb sb W h1 h2 h3 => first_choose pb p q mb m q' o l sb L pg nb S (.slice a skip.length cap) skip hl W h1 h2 h3)
  have HZ := hide (show chooseZ L S nb skip = if chooseK L S nb skip = -1 then (0, false) else (chooseK L S nb skip, true) from rfl)
  generalize chooseK L S nb skip = k at *
  generalize chooseZ L S nb skip = z at *
  clear hp hm hs
  go_enter Tryz.func26, Tryz.ntmps26
  go_wp2_with fail
  have b1 := (Below.refl w.heap.size w).alloc (Nat.le_refl _) (.cells #[.pointer (some ⟨p, 0, none⟩)] 25)
  have b2 := b1.alloc (by simp) (.cells #[.pointer (some ⟨m, 0, none⟩)] 27)
  have b3 := b2.alloc (by simp; omega) (.cells #[(.slice a skip.length cap)] 59)
  have h1 := heap_new w (.cells #[.pointer (some ⟨p, 0, none⟩)] 25)
  generalize hw1 : w.alloc (.cells #[.pointer (some ⟨p, 0, none⟩)] 25) = w1 at *
  have s1 : w1.heap.size = w.heap.size + 1 := by rw [← hw1]; simp
  have h2 := heap_new w1 (.cells #[.pointer (some ⟨m, 0, none⟩)] 27)
  have h1 := heap_old w1 (.cells #[.pointer (some ⟨m, 0, none⟩)] 27) _ (heap_lt h1) |>.trans h1
  generalize hw2 : w1.alloc (.cells #[.pointer (some ⟨m, 0, none⟩)] 27) = w2 at *
  have s2 : w2.heap.size = w.heap.size + 1 + 1 := by rw [← hw2]; simp [s1]
  have h3 := heap_new w2 (.cells #[(.slice a skip.length cap)] 59)
  have h1 := heap_old w2 (.cells #[(.slice a skip.length cap)] 59) _ (heap_lt h1) |>.trans h1
  have h2 := heap_old w2 (.cells #[(.slice a skip.length cap)] 59) _ (heap_lt h2) |>.trans h2
  rw [s1] at h2
  rw [s2] at h3
  generalize w2.alloc (.cells #[(.slice a skip.length cap)] 59) = w3 at *
  refine (HF.out _ _ _ w3 ⟨HP.out.below b3, h1⟩ ⟨HM.out.below b3, h2⟩ ⟨h3, HS.out.below b3⟩).mono ?_
  rintro e w4 ⟨rfl, hb⟩
  have B4 := hide (b3.trans (hb.mono b3.size))
  clear hb b1 b2 b3 h1 h2 h3 hw1 hw2 s1 s2
  by_cases hk : k = -1
  · subst hk
    rw [if_pos rfl] at HZ
    go_wp2_with fail
    go_ret2
    exact ⟨ret_ib (by rw [HZ.out]) (by rw [HZ.out]), B4.out⟩
  · rw [if_neg hk] at HZ
    go_wp2_with fail
    go_ret2
    exact ⟨ret_ib (by rw [HZ.out]) (by rw [HZ.out]), B4.out⟩
set_option maxRecDepth 100000 in
theorem cold_no (p : Addr) (lv : Int) (h : lv < 1) (a : Option Addr) (n cap : Nat) (w : World) : Calls Tryz.prog 39 #[.pointer (some p), .int .i64 lv, .slice a n cap] w fun e w' => e = .returned (.tuple #[.int .i64 0, .bool false]) ∧ Below w.heap.size w w' := by
  go_enter Tryz.func39, Tryz.ntmps39
  go_wp2_with fail
  go_ret2
  exact ⟨rfl, by go_grown⟩
def SndOk (L : List (Int × Int)) : Prop := ∀ b, 0 ≤ sndZ L b ∧ sndZ L b ≤ 1000000
set_option maxRecDepth 100000 in
theorem cold_any (p q : Nat) (L : List (Int × Int)) (hL : SndOk L) (lv : Int) (h : 1 ≤ lv) (sv : Value) (skip : List Int) (hl : skip.length ≤ maxLen) (w : World) (hp : PoolAt w p q L) (hs : NumsAt w .i64 sv skip) :
    Calls Tryz.prog 39 #[.pointer (some ⟨p, 0, none⟩), .int .i64 lv, sv] w fun e w' => e = .returned (.tuple #[.int .i64 (coldZ L lv skip).1, .bool (coldZ L lv skip).2]) ∧ Below w.heap.size w w' := by
  obtain ⟨a, cap, rfl, -, -⟩ := nums_at hs
  have HP := hide hp
  have HS := hide hs
  have HF := hide (fun pb sb W h1 h2 => first_low pb p q sb L (.slice a skip.length cap) skip hl W h1 h2)
  have HG := hide (fun pb sb W h1 h2 => first_high pb p q sb L (.slice a skip.length cap) skip hl W h1 h2)
  have HST := hide (fun W hW => state_any p q L (lowK L skip) W hW)
  have HWL := hide (fun W hW => wear_any p q L (lowK L skip) W hW)
  have HWH := hide (fun W hW => wear_any p q L (highK L skip) W hW)
  have HZ := hide (show coldZ L lv skip = if lv < 1 ∨ lowK L skip = -1 ∨ fstZ L (lowK L skip) ≠ 2 ∨ sndZ L (highK L skip) - sndZ L (lowK L skip) < lv then (0, false) else (lowK L skip, true) from rfl)
  have hb1 := hL (lowK L skip)
  have hb2 := hL (highK L skip)
  generalize coldZ L lv skip = z at *
  generalize fstZ L (lowK L skip) = st at *
  generalize sndZ L (lowK L skip) = u at *
  generalize sndZ L (highK L skip) = v at *
  generalize lowK L skip = lo at *
  generalize highK L skip = hi at *
  clear hp hs hL
  go_enter Tryz.func39, Tryz.ntmps39
  go_wp2_with fail
  have b1 := (Below.refl w.heap.size w).alloc (Nat.le_refl _) (.cells #[.pointer (some ⟨p, 0, none⟩)] 25)
  have b3 := b1.alloc (by simp) (.cells #[(.slice a skip.length cap)] 59)
  have h1 := heap_new w (.cells #[.pointer (some ⟨p, 0, none⟩)] 25)
  generalize hw1 : w.alloc (.cells #[.pointer (some ⟨p, 0, none⟩)] 25) = w1 at *
  have s1 : w1.heap.size = w.heap.size + 1 := by rw [← hw1]; simp
  have h3 := heap_new w1 (.cells #[(.slice a skip.length cap)] 59)
  have h1 := heap_old w1 (.cells #[(.slice a skip.length cap)] 59) _ (heap_lt h1) |>.trans h1
  rw [s1] at h3
  generalize w1.alloc (.cells #[(.slice a skip.length cap)] 59) = w3 at *
  have P3 := hide (show VicP w3 _ p q L from ⟨HP.out.below b3, h1⟩)
  have S3 := hide (show VicS w3 _ (.slice a skip.length cap) skip from ⟨h3, HS.out.below b3⟩)
  have B3 := hide b3
  clear b1 b3 h1 h3 hw1 s1 HP HS
  refine (HF.out _ _ w3 P3.out S3.out).mono ?_
  rintro e w4 ⟨rfl, hb⟩
  have P4 := hide (P3.out.below hb)
  have S4 := hide (S3.out.below hb)
  have B4 := hide (B3.out.trans (hb.mono B3.out.size))
  clear hb P3 S3 B3
  go_wp2_with fail
  refine (HG.out _ _ w4 P4.out S4.out).mono ?_
  rintro e w5 ⟨rfl, hb⟩
  have P5 := hide (P4.out.below hb)
  have B5 := hide (B4.out.trans (hb.mono B4.out.size))
  clear hb P4 S4 B4 HF HG
  have c5 := cell_of_block P5.out.pbox 0
  have HP5 := hide (fun n => P5.out.pool.drewN n)
  have d0 : ¬ lv < 1 := by omega
  have hsub1 : -9223372036854775808 ≤ v - u := by omega
  have hsub2 : v - u ≤ 9223372036854775807 := by omega
  have hwv : IntKind.i64.wrap (v - u) = v - u := by rw [IntKind.wrap_i64]; omega
  clear P5
  by_cases hlo : lo = -1
  · subst hlo
    rw [if_pos (.inr (.inl rfl))] at HZ
    go_wp2
    go_quiet (fail)
    go_wp2
    go_ret2
    exact ⟨ret_ib (by rw [HZ.out]) (by rw [HZ.out]), B5.out.drewN _⟩
  · have hdl : decide (lo = -1) = false := decide_eq_false hlo
    have hdm : (lo == -1) = false := by simp [hlo]
    by_cases hst : st = 2
    · subst hst
      by_cases hlv : v - u < lv
      · have hdv : decide (v - u < lv) = true := decide_eq_true hlv
        rw [if_pos (.inr (.inr (.inr hlv)))] at HZ
        go_wp2
        go_quiet ((first | (go_at_call 50; with_reducible exact quiet_eq (HST.out _ (HP5.out _))) | (go_at_call 55; with_reducible exact quiet_eq (HWL.out _ (HP5.out _))) | (go_at_call 55; with_reducible exact quiet_eq (HWH.out _ (HP5.out _)))))
        go_wp2
        go_ret2
        exact ⟨ret_ib (by rw [HZ.out]) (by rw [HZ.out]), B5.out.drewN _⟩
      · have hdv : decide (v - u < lv) = false := decide_eq_false hlv
        rw [if_neg (by simp [hlo, hlv, d0])] at HZ
        go_wp2
        go_quiet ((first | (go_at_call 50; with_reducible exact quiet_eq (HST.out _ (HP5.out _))) | (go_at_call 55; with_reducible exact quiet_eq (HWL.out _ (HP5.out _))) | (go_at_call 55; with_reducible exact quiet_eq (HWH.out _ (HP5.out _)))))
        go_wp2
        go_ret2
        exact ⟨ret_ib (by rw [HZ.out]) (by rw [HZ.out]), B5.out.drewN _⟩
    · have hds : decide (st = 2) = false := decide_eq_false hst
      rw [if_pos (.inr (.inr (.inl hst)))] at HZ
      go_wp2
      go_quiet ((go_at_call 50; with_reducible exact quiet_eq (HST.out _ (HP5.out _))))
      go_wp2
      go_ret2
      exact ⟨ret_ib (by rw [HZ.out]) (by rw [HZ.out]), B5.out.drewN _⟩
end Go.Proofs.YtjfmkfhjbdiojaaGreat

namespace Go.Proofs.YtjfmkfhjbdiojaaGreat
set_option linter.unusedSimpArgs false
set_option linter.unusedVariables false
open Go.RowKit Go.WideShapes Go.ChangeShapes Go.ChangeAt Go.Deep W

def aheadF (L : List (Int × Int)) (lv : Int → Int) (a b : Int) : Bool := if lv a ≠ lv b then decide (lv a < lv b) else decide (sndZ L a < sndZ L b)
theorem aheadC_eq (L : List (Int × Int)) (S : Spots) (nb : Nat) : aheadC L S nb = aheadF L (lvZ S nb) := by funext a b; rfl
theorem firstK_none (may : Int → Bool) (ahead : Int → Int → Bool) : ∀ n : Nat, firstK may ahead n = -1 → ∀ b : Nat, b < n → may b = false
  | 0, _, b, h => by omega
  | n + 1, h, b, hb => by
    have hbd := firstK_bd may ahead n
    rw [firstK] at h
    split at h
    · omega
    · rename_i hc
      by_cases e : b = n
      · subst e
        cases hm : may b with
        | false => rfl
        | true => exact absurd ⟨hm, .inl h⟩ hc
      · exact firstK_none may ahead n h b (by omega)
theorem firstK_may (may : Int → Bool) (ahead : Int → Int → Bool) : ∀ n : Nat, firstK may ahead n ≠ -1 → may (firstK may ahead n) = true
  | 0, h => absurd rfl h
  | n + 1, h => by
    rw [firstK] at h ⊢
    split
    · rename_i hc; exact hc.1
    · rename_i hc
      rw [if_neg hc] at h
      exact firstK_may may ahead n h
theorem firstK_best (may : Int → Bool) (ahead : Int → Int → Bool) (hi : ∀ a, ahead a a = false) (ht : ∀ a b c, ahead a b = false → ahead c b = true → ahead a c = false) : ∀ n : Nat, ∀ b : Nat, b < n → may b = true → ahead b (firstK may ahead n) = false
  | 0, b, h, _ => by omega
  | n + 1, b, hb, hm => by
    rw [firstK]
    by_cases hc : may (n : Int) = true ∧ (firstK may ahead n = -1 ∨ ahead n (firstK may ahead n) = true)
    · rw [if_pos hc]
      by_cases e : b = n
      · subst e; exact hi _
      · rcases hc.2 with h1 | h1
        · have := firstK_none may ahead n h1 b (by omega)
          rw [this] at hm
          cases hm
        · exact ht _ _ _ (firstK_best may ahead hi ht n b (by omega) hm) h1
    · rw [if_neg hc]
      by_cases e : b = n
      · subst e
        cases ha : ahead b (firstK may ahead b) with
        | false => rfl
        | true => exact absurd ⟨hm, .inr ha⟩ hc
      · exact firstK_best may ahead hi ht n b (by omega) hm
/-- blocks that there aren't are passed over -/
theorem firstK_more (may : Int → Bool) (ahead : Int → Int → Bool) (n : Nat) (h : ∀ b : Nat, n ≤ b → may b = false) : ∀ k : Nat, firstK may ahead (n + k) = firstK may ahead n
  | 0 => rfl
  | k + 1 => by
    rw [← Nat.add_assoc, firstK, if_neg (fun hc => by have h1 := h (n + k) (by omega); rw [h1] at hc; exact absurd hc.1 (by decide))]
    exact firstK_more may ahead n h k
theorem firstK_all (may : Int → Bool) (ahead : Int → Int → Bool) (n : Nat) (hn : n ≤ 256) (h : ∀ b : Nat, n ≤ b → may b = false) : firstK may ahead 256 = firstK may ahead n := by
  have := firstK_more may ahead n h (256 - n)
  rwa [show n + (256 - n) = 256 by omega] at this
theorem fstZ_out (L : List (Int × Int)) (b : Nat) (h : L.length ≤ b) : fstZ L b = 0 := by unfold fstZ; rw [if_neg (by omega)]
theorem fstZ_in (L : List (Int × Int)) (b : Nat) (h : b < L.length) : fstZ L b = (L.getD b (0, 0)).1 := by unfold fstZ; rw [if_pos (by omega), Int.toNat_natCast]
theorem sndZ_in (L : List (Int × Int)) (b : Nat) (h : b < L.length) : sndZ L b = (L.getD b (0, 0)).2 := by unfold sndZ; rw [if_pos (by omega), Int.toNat_natCast]
theorem good_out (L : List (Int × Int)) (skip : List Int) (b : Nat) (h : L.length ≤ b) : goodB L skip b = false := by unfold goodB; rw [fstZ_out L b h]; rfl
theorem used_out (L : List (Int × Int)) (skip : List Int) (b : Nat) (h : L.length ≤ b) : usedB L skip b = false := by unfold usedB; rw [fstZ_out L b h]; rfl
def StOk (L : List (Int × Int)) : Prop := ∀ i, i < L.length → (1 ≤ (L.getD i (0, 0)).1 ∧ (L.getD i (0, 0)).1 ≤ 3) ∧ 0 ≤ (L.getD i (0, 0)).2 ∧ (L.getD i (0, 0)).2 ≤ 999
theorem StOk.snd {L : List (Int × Int)} (h : StOk L) : SndOk L := fun b => by
  unfold sndZ
  split
  · rename_i hb
    have := (h b.toNat (by omega)).2
    omega
  · omega
theorem StOk.fst {L : List (Int × Int)} (h : StOk L) (b : Int) : 0 ≤ fstZ L b ∧ fstZ L b ≤ 3 := by
  unfold fstZ
  split
  · rename_i hb
    have := (h b.toNat (by omega)).1
    omega
  · omega
theorem sp_first (L : List (Int × Int)) (hL : StOk L) : ∀ k : Nat, k ≤ L.length → (firstK (goodB L []) (lessB L) k = -1 ↔ firstK (goodB L []) (moreB L) k = -1) ∧ (spK L k).1 = (if firstK (goodB L []) (lessB L) k = -1 then -1 else sndZ L (firstK (goodB L []) (lessB L) k)) ∧ (spK L k).2 = (if firstK (goodB L []) (moreB L) k = -1 then 0 else sndZ L (firstK (goodB L []) (moreB L) k))
  | 0, _ => by simp [firstK, spK]
  | k + 1, hk => by
    obtain ⟨h0, h1, h2⟩ := sp_first L hL k (by omega)
    have hs := hL.snd
    have hw := hL k (by omega)
    have hx := fstZ_in L k (by omega)
    have hy := sndZ_in L k (by omega)
    rw [firstK, firstK, spK]
    have hle : ∀ g, lessB L k g = decide (sndZ L k < sndZ L g) := fun _ => rfl
    have hmo : ∀ m, moreB L k m = decide (sndZ L k > sndZ L m) := fun _ => rfl
    rw [hle, hmo]
    by_cases e : (L.getD k (0, 0)).1 = 3
    · have hg : goodB L [] (k : Int) = false := by unfold goodB; rw [hx, e]; rfl
      rw [hg, if_neg (fun h => absurd h.1 (by decide)), if_neg (fun h => absurd h.1 (by decide)), if_pos e]
      exact ⟨h0, h1, h2⟩
    · have hg : goodB L [] (k : Int) = true := by
        have h3 := hw.1
        have h4 : (L.getD k (0, 0)).1 = 1 ∨ (L.getD k (0, 0)).1 = 2 := by omega
        unfold goodB
        rw [hx]
        rcases h4 with e1 | e1 <;> rw [e1] <;> rfl
      rw [hg, if_neg e, ← hy]
      have hws : 0 ≤ sndZ L k := by rw [hy]; exact hw.2.1
      generalize firstK (goodB L []) (lessB L) k = g at *
      generalize firstK (goodB L []) (moreB L) k = m at *
      have hgs := hs g
      have hms := hs m
      have hkk : ¬ (k : Int) = -1 := by omega
      by_cases hg1 : g = -1
      · have hm1 := h0.1 hg1
        rw [if_pos hg1] at h1
        rw [if_pos hm1] at h2
        have G1 : (if true = true ∧ (g = -1 ∨ decide (sndZ L k < sndZ L g) = true) then (k : Int) else g) = k := if_pos ⟨rfl, .inl hg1⟩
        have M1 : (if true = true ∧ (m = -1 ∨ decide (sndZ L k > sndZ L m) = true) then (k : Int) else m) = k := if_pos ⟨rfl, .inl hm1⟩
        rw [h1, h2, G1, M1, if_neg hkk, if_neg hkk]
        refine ⟨Iff.rfl, ?_, ?_⟩
        · rw [if_pos (.inl (by omega))]
        · dsimp only
          split <;> omega
      · have hm1 : m ≠ -1 := fun h => hg1 (h0.2 h)
        rw [if_neg hg1] at h1
        rw [if_neg hm1] at h2
        rw [h1, h2]
        have G1 : (sndZ L k < sndZ L g ∧ (if true = true ∧ (g = -1 ∨ decide (sndZ L k < sndZ L g) = true) then (k : Int) else g) = k) ∨ (¬ sndZ L k < sndZ L g ∧ (if true = true ∧ (g = -1 ∨ decide (sndZ L k < sndZ L g) = true) then (k : Int) else g) = g) := by
          by_cases hlt : sndZ L k < sndZ L g
          · exact .inl ⟨hlt, if_pos ⟨rfl, .inr (decide_eq_true hlt)⟩⟩
          · exact .inr ⟨hlt, if_neg (fun h => h.2.elim hg1 (fun h3 => hlt (of_decide_eq_true h3)))⟩
        have M1 : (sndZ L k > sndZ L m ∧ (if true = true ∧ (m = -1 ∨ decide (sndZ L k > sndZ L m) = true) then (k : Int) else m) = k) ∨ (¬ sndZ L k > sndZ L m ∧ (if true = true ∧ (m = -1 ∨ decide (sndZ L k > sndZ L m) = true) then (k : Int) else m) = m) := by
          by_cases hlt : sndZ L k > sndZ L m
          · exact .inl ⟨hlt, if_pos ⟨rfl, .inr (decide_eq_true hlt)⟩⟩
          · exact .inr ⟨hlt, if_neg (fun h => h.2.elim hm1 (fun h3 => hlt (of_decide_eq_true h3)))⟩
        generalize (if true = true ∧ (g = -1 ∨ decide (sndZ L k < sndZ L g) = true) then (k : Int) else g) = G' at *
        generalize (if true = true ∧ (m = -1 ∨ decide (sndZ L k > sndZ L m) = true) then (k : Int) else m) = M' at *
        dsimp only
        have hG : G' ≠ -1 := by rcases G1 with ⟨_, rfl⟩ | ⟨_, rfl⟩; exact hkk; exact hg1
        have hM : M' ≠ -1 := by rcases M1 with ⟨_, rfl⟩ | ⟨_, rfl⟩; exact hkk; exact hm1
        rw [if_neg hG, if_neg hM]
        refine ⟨⟨fun h => absurd h hG, fun h => absurd h hM⟩, ?_, ?_⟩
        · rcases G1 with ⟨hlt, rfl⟩ | ⟨hlt, rfl⟩
          · rw [if_pos (.inr hlt)]
          · rw [if_neg (fun h => by rcases h with h3 | h3 <;> omega)]
        · rcases M1 with ⟨hlt, rfl⟩ | ⟨hlt, rfl⟩
          · rw [if_pos hlt]
          · rw [if_neg (by omega)]
theorem cold_spread (L : List (Int × Int)) (hL : StOk L) (hn : L.length ≤ 256) (lv : Int) (h1 : 1 ≤ lv) :
    ((spreadZ L).2 - (spreadZ L).1 < lv → (coldZ L lv []).2 = false) ∧ ((coldZ L lv []).2 = true → fstZ L (coldZ L lv []).1 = 2 ∧ sndZ L (coldZ L lv []).1 = (spreadZ L).1) ∧ 0 ≤ (spreadZ L).1 ∧ (spreadZ L).1 ≤ 1000000 ∧ 0 ≤ (spreadZ L).2 ∧ (spreadZ L).2 ≤ 1000000 := by
  obtain ⟨h2, h3, h4⟩ := sp_first L hL L.length (Nat.le_refl _)
  have e1 : lowK L [] = firstK (goodB L []) (lessB L) L.length := firstK_all _ _ _ hn (fun b hb => good_out L [] b hb)
  have e2 : highK L [] = firstK (goodB L []) (moreB L) L.length := firstK_all _ _ _ hn (fun b hb => good_out L [] b hb)
  rw [← e1] at h2 h3
  rw [← e2] at h2 h4
  have b1 := hL.snd (lowK L [])
  have b2 := hL.snd (highK L [])
  have hsp : (spreadZ L).1 = (if lowK L [] = -1 then 0 else sndZ L (lowK L [])) ∧ (spreadZ L).2 = (if highK L [] = -1 then 0 else sndZ L (highK L [])) := by
    unfold spreadZ
    dsimp only
    rw [h3, h4]
    refine ⟨?_, rfl⟩
    by_cases h : lowK L [] = -1
    · rw [if_pos h, if_pos h]; rfl
    · rw [if_neg h, if_neg h, if_neg (by omega)]
  rw [hsp.1, hsp.2]
  unfold coldZ
  by_cases hlo : lowK L [] = -1
  · have hhi := h2.1 hlo
    rw [if_pos hlo, if_pos hhi, if_pos (.inr (.inl hlo))]
    exact ⟨fun _ => rfl, fun h => absurd (show false = true from h) (by decide), by omega, by omega, by omega, by omega⟩
  · have hhi : highK L [] ≠ -1 := fun h => hlo (h2.2 h)
    rw [if_neg hlo, if_neg hhi]
    by_cases hc : lv < 1 ∨ lowK L [] = -1 ∨ fstZ L (lowK L []) ≠ 2 ∨ sndZ L (highK L []) - sndZ L (lowK L []) < lv
    · rw [if_pos hc]
      exact ⟨fun _ => rfl, fun h => absurd (show false = true from h) (by decide), by omega, by omega, by omega, by omega⟩
    · rw [if_neg hc]
      refine ⟨fun h => absurd (.inr (.inr (.inr h))) hc, fun _ => ⟨?_, rfl⟩, by omega, by omega, by omega, by omega⟩
      by_cases h : fstZ L (lowK L []) = 2
      · exact h
      · exact absurd (.inr (.inr (.inl h))) hc
theorem aheadF_irr (L : List (Int × Int)) (lv : Int → Int) (a : Int) : aheadF L lv a a = false := by unfold aheadF; simp
theorem aheadF_tr (L : List (Int × Int)) (lv : Int → Int) (a b c : Int) (h1 : aheadF L lv a b = false) (h2 : aheadF L lv c b = true) : aheadF L lv a c = false := by
  unfold aheadF at *
  by_cases e1 : lv a = lv b
  · rw [if_neg (fun h => h e1)] at h1
    by_cases e2 : lv c = lv b
    · rw [if_neg (fun h => h e2)] at h2
      rw [if_neg (fun h => h (e1.trans e2.symm))]
      simp at *; omega
    · rw [if_pos e2] at h2
      rw [if_pos (by omega)]
      simp at *; omega
  · rw [if_pos e1] at h1
    by_cases e2 : lv c = lv b
    · rw [if_neg (fun h => h e2)] at h2
      rw [if_pos (by omega)]
      simp at *; omega
    · rw [if_pos e2] at h2
      simp at h1 h2
      rw [if_pos (by omega)]
      simp; omega
/-- what is chosen has the least live pages -/
theorem choose_least (L : List (Int × Int)) (S : Spots) (nb : Nat) (skip : List Int) :
    ((chooseZ L S nb skip).2 = true → usedB L skip (chooseZ L S nb skip).1 = true ∧ ∀ b : Nat, b < 256 → usedB L skip b = true → lvZ S nb (chooseZ L S nb skip).1 ≤ lvZ S nb b) ∧ ((chooseZ L S nb skip).2 = false → ∀ b : Nat, b < 256 → usedB L skip b = false) := by
  have hb := firstK_best (usedB L skip) (aheadC L S nb) (by rw [aheadC_eq]; exact aheadF_irr _ _) (by rw [aheadC_eq]; exact aheadF_tr _ _) 256
  have hm := firstK_may (usedB L skip) (aheadC L S nb) 256
  have hn := firstK_none (usedB L skip) (aheadC L S nb) 256
  unfold chooseZ
  rw [show firstK (usedB L skip) (aheadC L S nb) 256 = chooseK L S nb skip from rfl] at hb hm hn
  generalize chooseK L S nb skip = k at *
  by_cases hk : k = -1
  · rw [if_pos hk]
    exact ⟨fun h => absurd (show false = true from h) (by decide), fun _ => hn hk⟩
  · rw [if_neg hk]
    refine ⟨fun _ => ⟨hm hk, fun b hb1 hb2 => ?_⟩, fun h => absurd (show true = false from h) (by decide)⟩
    have h1 := hb b hb1 hb2
    rw [aheadC_eq] at h1
    unfold aheadF at h1
    dsimp only
    by_cases e : lvZ S nb b = lvZ S nb k
    · omega
    · rw [if_pos e] at h1
      have := of_decide_eq_false h1
      omega
end Go.Proofs.YtjfmkfhjbdiojaaGreat
