/-
  Lemmas and contracts of this project's own, put together: Mv2, Mv3, Mv4, MvF, MvK.
-/
import Derived.Laws.IdiomRangeMap
import Derived.Test.YtmcaegbggblfpaaGreatPk17
namespace Go.Proofs.YtmcaegbggblfpaaGreat
set_option linter.unusedSimpArgs false
set_option linter.unusedVariables false
open Go.RowKit Go.WideShapes Go.ChangeShapes Go.ChangeAt Go.Deep W

section
variable {B0 nb pg sz : Nat} {A : MvA} {X : MvS} {N : Int}
set_option maxRecDepth 100000 in
set_option maxHeartbeats 4000000 in
theorem needs16 (b n : Int) (hb : I64 b) (hn : I64 n) (w : World) (h : MvAt w B0 A nb pg X) : Calls Tryz.prog 36 #[.agg #[.pointer (some ⟨A.d, 0, none⟩), .pointer (some ⟨A.pp, 0, none⟩), .pointer (some ⟨A.sb, 0, none⟩), .pointer (some ⟨A.mp, 0, none⟩)], .agg #[.int .i64 b, .int .i64 n], .map none] w fun e w' => e = .returned (.bool (owner X.M (b, n)).isSome) ∧ Below w.heap.size w w' := by
  have HO := hide (fun W (hW : MvAt W B0 A nb pg X) => owner_any hW.mp b n hb hn)
  have H := hide h
  obtain ⟨r, hr⟩ : ∃ r, (owner X.M (b, n)).isSome = r := ⟨_, rfl⟩
  rw [hr]
  have HR := hide hr
  clear h hb hn hr
  obtain ⟨o1, ho1⟩ : ∃ ob, ob = (Obj.cells #[.pointer (some ⟨A.d, 0, none⟩), .pointer (some ⟨A.pp, 0, none⟩), .pointer (some ⟨A.sb, 0, none⟩), .pointer (some ⟨A.mp, 0, none⟩)] 29) := ⟨_, rfl⟩
  obtain ⟨o2, ho2⟩ : ∃ ob, ob = (Obj.cells #[.int .i64 b, .int .i64 n] 53) := ⟨_, rfl⟩
  have hal := ((Below.refl w.heap.size w).alloc (Nat.le_refl _) o1).alloc (by simp) o2
  have T1 := hide (show ((w.alloc o1).alloc o2).heap[w.heap.size]? = some (.cells #[.pointer (some ⟨A.d, 0, none⟩), .pointer (some ⟨A.pp, 0, none⟩), .pointer (some ⟨A.sb, 0, none⟩), .pointer (some ⟨A.mp, 0, none⟩)] 29 (0, 0)) by rw [heap_old _ _ _ (by simp), heap_new, ho1])
  have P1 := hide (show ((w.alloc o1).alloc o2).heap[w.heap.size + 1]? = some (.cells #[.int .i64 b, .int .i64 n] 53 (0, 0)) by rw [show w.heap.size + 1 = (w.alloc o1).heap.size by simp, heap_new, ho2])
  have X1 := hide (H.out.below hal)
  have B1 := hide hal
  clear hal
  go_enter Tryz.func36, Tryz.ntmps36
  go_upto_region 1 with (fail)
  rw [← ho1, ← ho2]
  generalize (w.alloc o1).alloc o2 = w1 at *
  obtain ⟨tb, htb⟩ : ∃ k, w.heap.size = k := ⟨_, rfl⟩
  obtain ⟨rb, hrb⟩ : ∃ k, tb + 1 = k := ⟨_, rfl⟩
  rw [htb] at T1 P1 B1 ⊢
  rw [hrb] at P1 ⊢
  clear hrb ho1 ho2 o1 o2
  have a3 := cell_of_block T1.out 3
  go_wp2_with (refine rw_load rfl 53 (.tmp 4) rfl rb rfl 53 #[.int .i64 b, .int .i64 n] (0, 0) _ P1.out Tryz.underlying53 rfl (by kernel_rfl) ?_)
  refine (HO.out _ X1.out).mono ?_
  rintro e w2 ⟨rfl, hb⟩
  have B2 := hide (B1.out.trans (hb.mono (by rw [← htb]; have := B1.out.size; omega)))
  have HTB := hide htb
  clear hb a3 T1 P1 X1 H HO htb
  rw [← HTB.out] at B2 ⊢
  clear HTB
  cases ho : owner X.M (b, n) with
  | some i =>
    rw [show ownZ X.M b n = (i : Int) from by unfold ownZ; rw [ho]]
    obtain rfl : true = r := by rw [← HR.out, ho]; rfl
    clear ho HR
    obtain ⟨z, hz⟩ : ∃ z : Int, (i : Int) = z := ⟨_, rfl⟩
    have hz0 : 0 ≤ z := by omega
    rw [hz]
    clear hz
    go_wp2_with fail
    go_ret
    exact ⟨rfl, B2.out⟩
  | none =>
    rw [show ownZ X.M b n = -1 from by unfold ownZ; rw [ho]]
    obtain rfl : false = r := by rw [← HR.out, ho]; rfl
    clear ho HR
    have hrg := run_range_nilMap (P := Tryz.prog) w2 36 3 53 Tryz.underlying36
    have hnx : ∀ ty, (Instr.next (.pointer (some ⟨w2.heap.size, 0, none⟩)) false ty).run Tryz.prog (w2.alloc (.mapIter none 0 #[] 0)) = _ := fun ty => run_next_nilMap w2 ty 0 0 #[]
    go_wp2_with fail
    refine wp_loop_rounds 1 ?_
    rw [rounds_succ]
    go_wp2_with fail
    go_ret
    exact ⟨rfl, B2.out.alloc B2.out.size _⟩
/-- what a move does -/
def Move16 (B0 : Nat) (A : MvA) (nb pg sz : Nat) (N : Int) (X : MvS) (l : Nat) (t : TgM) (td : List UInt8) (w : World) (e : Ending) (w' : World) : Prop :=
  ∃ (X' : MvS) (k j : Nat), e = .returned (.int .i64 0) ∧ PutX nb pg sz N X X' k j t td ∧ MvAt w' B0 A nb pg (mapX X' l k j t td) ∧ TurnM B0 w w'
set_option maxRecDepth 100000 in
set_option maxHeartbeats 8000000 in
theorem move16 (hok : HOk nb pg sz N X) (hN : N ≤ 800000) (hpg : 2 ≤ pg) (hpg2 : pg ≤ 64) (hnb : nb ≤ 256) (hsz : sz ≤ 1024) (hr : 1 ≤ X.lf ∨ 1 ≤ freeN X.L) (l c i : Nat) (hl : X.M.getD l none = some ((c : Int), (i : Int))) (hi : Inj X.M) (t : TgM) (td : List UInt8) (hD : X.D l = (t, td)) (w : World) (h : MvAt w B0 A nb pg X) :
    Calls Tryz.prog 37 #[.agg #[.pointer (some ⟨A.d, 0, none⟩), .pointer (some ⟨A.pp, 0, none⟩), .pointer (some ⟨A.sb, 0, none⟩), .pointer (some ⟨A.mp, 0, none⟩)], .agg #[.int .i64 (c : Int), .int .i64 (i : Int)], .map none] w (Move16 B0 A nb pg sz N X l t td w) := by
  obtain ⟨k0, j0, e0, hk0, hj0, -, -, hL0⟩ := hok.has l _ hl
  simp only [Prod.mk.injEq, Int.natCast_inj] at e0
  obtain ⟨rfl, rfl⟩ := e0
  rw [hD] at hL0
  have hlt : l < X.M.length := getD_lt hl
  have hask : askE X.S (c : Int) (i : Int) = 0 := askE_yes hok.heal.off (by rw [hok.dims.1]; exact hk0) (by rw [hok.dims.2.1]; exact hj0)
  have hread : readP X.S (c : Int) (i : Int) = (bs td, bs (frameL t.k t.l t.s t.n t.m td)) := by
    unfold readP
    rw [if_pos hask, Int.toNat_natCast, Int.toNat_natCast]
    exact hL0.page
  obtain ⟨ht1, ht2, ht3⟩ := id hL0.ok
  have HRD := hide (fun W (hW : MvAt W B0 A nb pg X) => dread_tag (c : Int) (i : Int) t.k t.l t.s t.n t.m ht1 ht2 ht3 td (by rw [hL0.len]; exact hsz) hask hread W hW.st.drive)
  have HPU := hide (fun W (hW : MvAt W B0 A nb pg X) => put16 hok hN hpg (by omega) hnb hr t hL0.ok td hL0.len W hW)
  have HOW := hide (fun X' (hM : X'.M = X.M) W (hW : MvAt W B0 A nb pg X') => owner_any hW.mp (c : Int) (i : Int) (by unfold I64; omega) (by unfold I64; omega))
  have hown : ∀ X' : MvS, X'.M = X.M → ownZ X'.M (c : Int) (i : Int) = (l : Int) := fun X' hM => by
    unfold ownZ
    rw [hM, owner_is hi (getD_some hl)]
  have HOWN := hide hown
  have HWP := hide (fun (X' : MvS) (k j : Nat) (hM : X'.M = X.M) (hk : k < nb) (hj : j < pg) (hf : ∀ m, X.M.getD m none ≠ some ((k : Int), (j : Int))) W (hW : MvAt W B0 A nb pg X') => wput16 hpg2 hnb l k j t td (by rw [hM]; exact hlt) hk hj (fun m hm => absurd (by rw [← hM]; exact hm) (hf m)) W hW)
  have H := hide h
  have HSZ := hide h.size
  obtain ⟨tk, tl, ts, tn, tm⟩ := t
  unfold pageC at HRD
  dsimp only at HRD HPU
  unfold Move16
  unfold Put16 at HPU
  clear hok hN hpg hpg2 hnb hsz hr hi hD h hask hread hL0 ht1 ht2 ht3 hk0 hj0 hown hl hlt
  obtain ⟨cz, hcz⟩ : ∃ z : Int, (c : Int) = z := ⟨_, rfl⟩
  obtain ⟨iz, hiz⟩ : ∃ z : Int, (i : Int) = z := ⟨_, rfl⟩
  obtain ⟨lz, hlz⟩ : ∃ z : Int, (l : Int) = z := ⟨_, rfl⟩
  have hl0 : 0 ≤ lz := by omega
  rw [hcz, hiz] at HRD HOW HOWN ⊢
  rw [hlz] at HOWN HWP
  clear hcz hiz hlz
  obtain ⟨o1, ho1⟩ : ∃ ob, ob = (Obj.cells #[.pointer (some ⟨A.d, 0, none⟩), .pointer (some ⟨A.pp, 0, none⟩), .pointer (some ⟨A.sb, 0, none⟩), .pointer (some ⟨A.mp, 0, none⟩)] 29) := ⟨_, rfl⟩
  obtain ⟨o2, ho2⟩ : ∃ ob, ob = (Obj.cells #[.int .i64 cz, .int .i64 iz] 53) := ⟨_, rfl⟩
  have hal := ((Below.refl w.heap.size w).alloc (Nat.le_refl _) o1).alloc (by simp) o2
  have T1 := hide (show ((w.alloc o1).alloc o2).heap[w.heap.size]? = some (.cells #[.pointer (some ⟨A.d, 0, none⟩), .pointer (some ⟨A.pp, 0, none⟩), .pointer (some ⟨A.sb, 0, none⟩), .pointer (some ⟨A.mp, 0, none⟩)] 29 (0, 0)) by rw [heap_old _ _ _ (by simp), heap_new, ho1])
  have P1 := hide (show ((w.alloc o1).alloc o2).heap[w.heap.size + 1]? = some (.cells #[.int .i64 cz, .int .i64 iz] 53 (0, 0)) by rw [show w.heap.size + 1 = (w.alloc o1).heap.size by simp, heap_new, ho2])
  have X1 := hide (H.out.below hal)
  have B1 := hide (TurnM.of_below hal HSZ.out)
  clear hal
  go_enter Tryz.func37, Tryz.ntmps37
  go_upto_region 1 with (fail)
  rw [← ho1, ← ho2]
  generalize (w.alloc o1).alloc o2 = w1 at *
  obtain ⟨tb, htb⟩ : ∃ k, w.heap.size = k := ⟨_, rfl⟩
  obtain ⟨rb, hrb⟩ : ∃ k, tb + 1 = k := ⟨_, rfl⟩
  rw [htb] at T1 P1 ⊢
  rw [hrb] at P1 ⊢
  clear htb hrb ho1 ho2 o1 o2
  have a0 := cell_of_block T1.out 0
  have b0 := cell_of_block P1.out 0
  have b1 := cell_of_block P1.out 1
  go_wp2_with fail
  refine (HRD.out _ X1.out).mono ?_
  rintro e w2 ⟨rfl, hb⟩
  have T2 := hide ((hb.block _ (heap_lt T1.out)).trans T1.out)
  have P2 := hide ((hb.block _ (heap_lt P1.out)).trans P1.out)
  have X2 := hide (X1.out.below hb)
  have B2 := hide (B1.out.trans (TurnM.of_below hb X1.out.size))
  clear hb a0 b0 b1 T1 P1 X1 B1 HRD H

  go_upto_region 2 with (refine rw_store rfl 62 (.tmp 7) (.tmp 21) rfl w2.heap.size rfl #[.int .i64 4, .int .u8 tk, .int .i64 tl, .int .u64 ts, .int .i64 tn, .int .i64 tm, .string (bs td)] rfl _ (heap_new w2 _) (by kernel_rfl) rfl (by simp [Value.oneCell']) ?_)
  have XB := hide (heap_new w2 (.cells #[.int .i64 0, .int .u8 0, .int .i64 0, .int .u64 0, .int .i64 0, .int .i64 0, .string ⟨#[]⟩] 62))
  have hal := (Below.refl w2.heap.size w2).alloc (Nat.le_refl _) (.cells #[.int .i64 0, .int .u8 0, .int .i64 0, .int .u64 0, .int .i64 0, .int .i64 0, .string ⟨#[]⟩] 62)
  have hbb := setRow_below (hal.trans (Below.refl _ _)) (Nat.le_refl _) hal.size (#[.int .i64 4, .int .u8 tk, .int .i64 tl, .int .u64 ts, .int .i64 tn, .int .i64 tm, .string (bs td)] : Array Value)
  have G3 := hide (setRow_same (cs := (#[.int .i64 4, .int .u8 tk, .int .i64 tl, .int .u64 ts, .int .i64 tn, .int .i64 tm, .string (bs td)] : Array Value)) XB.out)
  have T3 := hide ((hbb.block _ (heap_lt T2.out)).trans T2.out)
  have P3 := hide ((hbb.block _ (heap_lt P2.out)).trans P2.out)
  have X3 := hide (X2.out.below hbb)
  have B3 := hide (B2.out.trans (TurnM.of_below hbb X2.out.size))
  clear hal hbb XB T2 P2 X2 B2
  generalize (w2.alloc (.cells #[.int .i64 0, .int .u8 0, .int .i64 0, .int .u64 0, .int .i64 0, .int .i64 0, .string ⟨#[]⟩] 62)).setRow w2.heap.size (#[.int .i64 4, .int .u8 tk, .int .i64 tl, .int .u64 ts, .int .i64 tn, .int .i64 tm, .string (bs td)] : Array Value) = w3 at *
  generalize w2.heap.size = pb at *
  have a2 := cell_of_block T3.out 2
  have p0 := cell_of_block G3.out 0
  have p1 := cell_of_block G3.out 1
  have p2 := cell_of_block G3.out 2
  have p3 := cell_of_block G3.out 3
  have p4 := cell_of_block G3.out 4
  have p5 := cell_of_block G3.out 5
  have p6 := cell_of_block G3.out 6
  go_wp2_with fail
  refine (HPU.out _ X3.out).mono ?_
  rintro e w4 ⟨X', k, j, rfl, hp, hm, hb⟩
  have T4 := hide (hb.2.cells T3.out (by decide))
  have P4 := hide (hb.2.cells P3.out (by decide))
  have X4 := hide hm
  have HPX := hide hp
  have B4 := hide (B3.out.trans (TurnM.of_turnB hb))
  clear hb hp hm a2 p0 p1 p2 p3 p4 p5 p6 T3 P3 G3 X3 B3 HPU
  obtain ⟨kz, hkz⟩ : ∃ z : Int, (k : Int) = z := ⟨_, rfl⟩
  obtain ⟨jz, hjz⟩ : ∃ z : Int, (j : Int) = z := ⟨_, rfl⟩
  have HWQ := hide (HWP.out X' k j HPX.out.same.1 HPX.out.kj.1 HPX.out.kj.2.2 HPX.out.fresh)
  rw [hkz, hjz] at HWQ ⊢
  clear hkz hjz HWP
  go_upto_region 7 with (refine rw_store rfl 53 (.tmp 9) (.tmp 37) rfl w4.heap.size rfl #[.int .i64 kz, .int .i64 jz] rfl _ (heap_new w4 _) (by kernel_rfl) rfl (by simp [Value.oneCell']) ?_)
  have XB := hide (heap_new w4 (.cells #[.int .i64 0, .int .i64 0] 53))
  have hal := (Below.refl w4.heap.size w4).alloc (Nat.le_refl _) (.cells #[.int .i64 0, .int .i64 0] 53)
  have hbb := setRow_below (hal.trans (Below.refl _ _)) (Nat.le_refl _) hal.size (#[.int .i64 kz, .int .i64 jz] : Array Value)
  have Q5 := hide (setRow_same (cs := (#[.int .i64 kz, .int .i64 jz] : Array Value)) XB.out)
  have T5 := hide ((hbb.block _ (heap_lt T4.out)).trans T4.out)
  have P5 := hide ((hbb.block _ (heap_lt P4.out)).trans P4.out)
  have X5 := hide (X4.out.below hbb)
  have B5 := hide (B4.out.trans (TurnM.of_below hbb X4.out.size))
  clear hal hbb XB T4 P4 X4 B4
  generalize (w4.alloc (.cells #[.int .i64 0, .int .i64 0] 53)).setRow w4.heap.size (#[.int .i64 kz, .int .i64 jz] : Array Value) = w5 at *
  generalize w4.heap.size = qb at *
  have a3 := cell_of_block T5.out 3
  go_wp2_with (refine rw_load rfl 53 (.tmp 4) rfl rb rfl 53 #[.int .i64 cz, .int .i64 iz] (0, 0) _ P5.out Tryz.underlying53 rfl (by kernel_rfl) ?_)
  refine (HOW.out _ HPX.out.same.1 _ X5.out).mono ?_
  rintro e w6 ⟨rfl, hb⟩
  rw [HOWN.out _ HPX.out.same.1]
  have T6 := hide ((hb.block _ (heap_lt T5.out)).trans T5.out)
  have Q6 := hide ((hb.block _ (heap_lt Q5.out)).trans Q5.out)
  have X6 := hide (X5.out.below hb)
  have B6 := hide (B5.out.trans (TurnM.of_below hb X5.out.size))
  clear hb a3 T5 P5 Q5 X5 B5 HOW HOWN
  have a3 := cell_of_block T6.out 3
  go_wp2_with (refine rw_load rfl 53 (.tmp 9) rfl qb rfl 53 #[.int .i64 kz, .int .i64 jz] (0, 0) _ Q6.out Tryz.underlying53 rfl (by kernel_rfl) ?_)
  refine (HWQ.out _ X6.out).mono ?_
  rintro e w7 ⟨rfl, hm, hb⟩
  have X7 := hide hm
  have B7 := hide (B6.out.trans hb)
  clear hm hb a3 T6 Q6 X6 B6 HWQ
  have hrg := run_range_nilMap (P := Tryz.prog) w7 36 3 53 Tryz.underlying36
  have hnx : ∀ ty, (Instr.next (.pointer (some ⟨w7.heap.size, 0, none⟩)) false ty).run Tryz.prog (w7.alloc (.mapIter none 0 #[] 0)) = _ := fun ty => run_next_nilMap w7 ty 0 0 #[]
  go_wp2_with fail
  refine wp_loop_rounds 1 ?_
  rw [rounds_succ]
  go_wp2_with fail
  go_ret
  have hal := (Below.refl w7.heap.size w7).alloc (Nat.le_refl _) (.mapIter none 0 #[] 0)
  exact ⟨X', k, j, rfl, HPX.out, X7.out.below hal, B7.out.trans (TurnM.of_below hal X7.out.size)⟩
end
end Go.Proofs.YtmcaegbggblfpaaGreat

namespace Go.Proofs.YtmcaegbggblfpaaGreat
set_option linter.unusedSimpArgs false
set_option linter.unusedVariables false
open Go.RowKit Go.WideShapes Go.ChangeShapes Go.ChangeAt Go.Deep W

/-- the open block is closed if it is this one -/
def shutX (X : MvS) (c : Nat) : MvS := if X.op = (c : Int) then closeX X else X
section
variable {B0 nb pg sz : Nat} {A : MvA} {X : MvS} {N : Int}
theorem shut_hok (h : HOk nb pg sz N X) (hpg : 2 ≤ pg) (c : Nat) : HOk nb pg sz N (shutX X c) := by
  unfold shutX
  split
  · exact hok_close h hpg
  · exact h
theorem shut_same (c : Nat) : (shutX X c).M = X.M ∧ (shutX X c).S = X.S ∧ (shutX X c).K = X.K ∧ (shutX X c).L = X.L ∧ (shutX X c).D = X.D ∧ (shutX X c).op ≠ (c : Int) := by
  unfold shutX
  split
  · exact ⟨rfl, rfl, rfl, rfl, rfl, by show (-1 : Int) ≠ _; omega⟩
  · next h => exact ⟨rfl, rfl, rfl, rfl, rfl, h⟩
def Clear16 (B0 : Nat) (A : MvA) (nb pg sz : Nat) (N : Int) (X : MvS) (c : Nat) (w : World) (e : Ending) (w' : World) : Prop :=
  ∃ Y : MvS, e = .returned (.int .i64 0) ∧ HOk nb pg sz (N + 3 * (pg : Int)) Y ∧ Clr pg c pg (shutX X c) Y ∧ MvAt w' B0 A nb pg Y ∧ TurnM B0 w w'
set_option maxRecDepth 100000 in
set_option maxHeartbeats 8000000 in
theorem clear16 (hok : HOk nb pg sz N X) (hN : N ≤ 700000) (hpg : 2 ≤ pg) (hpg2 : pg ≤ 64) (hnb : nb ≤ 256) (hsz : sz ≤ 1024) (c : Nat) (hc : c < nb) (hcap : (liveN X.M (c : Int) : Int) ≤ capX pg (shutX X c)) (w : World) (h : MvAt w B0 A nb pg X) :
    Calls Tryz.prog 10 #[.agg #[.pointer (some ⟨A.d, 0, none⟩), .pointer (some ⟨A.pp, 0, none⟩), .pointer (some ⟨A.sb, 0, none⟩), .pointer (some ⟨A.mp, 0, none⟩)], .int .i64 (c : Int), .map none] w (Clear16 B0 A nb pg sz N X c w) := by
  have HAS := hide (fun W (hW : MvAt W B0 A nb pg X) => ask_ok (b := A.b) ⟨A.pp, 0, none⟩ ⟨A.sb, 0, none⟩ ⟨A.mp, 0, none⟩ (c : Int) (by omega) (by rw [hok.dims.1]; omega) W hW.st.drive)
  have hok0 := shut_hok hok hpg c
  have hM0 := (shut_same (X := X) c)
  have HSH := hide (fun W (hW : MvAt W B0 A nb pg (shutX X c)) => shape_any A.p A.q A.B A.G _ W hW.st.drive.chip)
  rw [hok0.dims.2.1] at HSH
  have HCH := hide (fun W (hW : MvAt W B0 A nb pg (shutX X c)) => chip_any hW.st.drive)
  have HCLO := hide (fun W (hW : MvAt W B0 A nb pg X) => close_any hW.st)
  have HOP := hide (fun W (hW : MvAt W B0 A nb pg X) => open_any W hW.st)
  have HNE := hide (fun (Y : MvS) (i : Nat) (hi : i < pg) W (hW : MvAt W B0 A nb pg Y) => needs16 (c : Int) (i : Int) (by unfold I64; omega) (by unfold I64; omega) W hW)
  have HMO := hide (fun (Y : MvS) (i l : Nat) (hi : i < pg) (hY : HOk nb pg sz (N + 3 * (i : Int)) Y) (hr : 1 ≤ Y.lf ∨ 1 ≤ freeN Y.L) (hl : Y.M.getD l none = some ((c : Int), (i : Int))) W (hW : MvAt W B0 A nb pg Y) => move16 hY (by omega) hpg hpg2 hnb hsz hr l c i hl hW.mp.inj (Y.D l).1 (Y.D l).2 rfl W hW)
  have HSHUT := hide (show (X.op = (c : Int) → shutX X c = closeX X) ∧ (¬ X.op = (c : Int) → shutX X c = X) from ⟨fun e => if_pos e, fun e => if_neg e⟩)
  have HNEG := hide (show ∀ l x, (shutX X c).M.getD l none = some x → 0 ≤ x.2 from fun l x hx => by
    obtain ⟨k, j, rfl, -⟩ := hok0.has l x hx
    show 0 ≤ (j : Int); omega)
  rw [← hM0.1] at hcap
  have HCAP := hide hcap
  have HOPN := hide hM0.2.2.2.2.2
  unfold Clear16
  unfold Move16 at HMO
  have HOK0 := hide hok0
  have H := hide h
  have HSZ := hide h.size
  have HPG := hide hpg
  have hfl := fld1
  obtain ⟨oz, hoz⟩ : ∃ z, X.op = z := ⟨_, rfl⟩
  rw [hoz] at HSHUT HOP
  generalize shutX X c = X0 at *
  clear h hok hok0 hM0 hN hpg hnb hsz hc hcap hoz
  obtain ⟨cz, hcz⟩ : ∃ z : Int, (c : Int) = z := ⟨_, rfl⟩
  rw [hcz] at HAS HNE HSHUT ⊢
  have HCZ := hide hcz
  clear hcz
  have X1 := hide (H.out.below ((Below.refl w.heap.size w).alloc (Nat.le_refl _) (.cells #[.pointer (some ⟨A.d, 0, none⟩), .pointer (some ⟨A.pp, 0, none⟩), .pointer (some ⟨A.sb, 0, none⟩), .pointer (some ⟨A.mp, 0, none⟩)] 29)))
  have T1 := hide (heap_new w (.cells #[.pointer (some ⟨A.d, 0, none⟩), .pointer (some ⟨A.pp, 0, none⟩), .pointer (some ⟨A.sb, 0, none⟩), .pointer (some ⟨A.mp, 0, none⟩)] 29))
  have B1 := hide (TurnM.of_below ((Below.refl w.heap.size w).alloc (Nat.le_refl _) (.cells #[.pointer (some ⟨A.d, 0, none⟩), .pointer (some ⟨A.pp, 0, none⟩), .pointer (some ⟨A.sb, 0, none⟩), .pointer (some ⟨A.mp, 0, none⟩)] 29)) HSZ.out)
  go_enter Tryz.func10, Tryz.ntmps10
  go_upto_region 1 with (fail)
  generalize w.alloc (.cells #[.pointer (some ⟨A.d, 0, none⟩), .pointer (some ⟨A.pp, 0, none⟩), .pointer (some ⟨A.sb, 0, none⟩), .pointer (some ⟨A.mp, 0, none⟩)] 29) = w1 at *
  generalize w.heap.size = tb at *
  clear H
  go_wp2_with (refine rw_load rfl 29 (.tmp 3) rfl tb rfl 29 #[.pointer (some ⟨A.d, 0, none⟩), .pointer (some ⟨A.pp, 0, none⟩), .pointer (some ⟨A.sb, 0, none⟩), .pointer (some ⟨A.mp, 0, none⟩)] (0, 0) _ T1.out Tryz.underlying29 rfl (by kernel_rfl) ?_)
  refine (HAS.out _ X1.out).mono ?_
  rintro e w2 ⟨rfl, hb⟩
  have X2 := hide (X1.out.below hb)
  have T2 := hide ((hb.block _ (heap_lt T1.out)).trans T1.out)
  have B2 := hide (B1.out.trans (TurnM.of_below hb X1.out.size))
  clear hb X1 T1 B1 HAS
  have a2 := cell_of_block T2.out 2
  go_wp2_with fail
  refine (HOP.out _ X2.out).mono ?_
  rintro e w3 ⟨rfl, rfl⟩
  go_upto_if 21 with (fail)
  go_cut [] from 21 to 25 (fun W => MvAt W B0 A nb pg X0 ∧ W.heap[tb]? = some (.cells #[.pointer (some ⟨A.d, 0, none⟩), .pointer (some ⟨A.pp, 0, none⟩), .pointer (some ⟨A.sb, 0, none⟩), .pointer (some ⟨A.mp, 0, none⟩)] 29 (0, 0)) ∧ TurnM B0 w W)
  case first =>
    by_cases e : oz = cz
    · have g0 : (oz == cz) = true := beq_iff_eq.mpr e
      have HE := hide (HSHUT.out.1 e)
      clear e
      go_wp2_with fail
      refine (HCLO.out _ X2.out).mono ?_
      rintro e w4 ⟨rfl, hs, hb⟩
      have X4 := hide (show MvAt w4 B0 A nb pg X0 by rw [HE.out]; exact X2.out.stTo (X' := closeX X) hs hb rfl)
      have T4 := hide (hb.2.cells T2.out (by decide))
      have B4 := hide (B2.out.trans (TurnM.of_turnB hb))
      clear hs hb HE X2 T2 B2 a2
      go_wp2_with fail
      go_meet
      exact ⟨X4.out, T4.out, B4.out⟩
    · have g0 : (oz == cz) = false := beq_eq_false_iff_ne.mpr e
      have HE := hide (HSHUT.out.2 e)
      clear e
      go_wp2_with fail
      go_meet
      exact ⟨by rw [HE.out]; exact X2.out, T2.out, B2.out⟩
  case rest =>
  obtain ⟨hx, ht, hb⟩ := hcut
  have X3 := hide hx
  have T3 := hide ht
  have B3 := hide hb
  clear hx ht hb X2 T2 B2 a2 HOP HCLO HSHUT
  have a0 := cell_of_block T3.out 0
  go_wp2_with fail
  refine (HCH.out _ X3.out).mono ?_
  rintro e w5 ⟨rfl, rfl⟩
  go_wp2_with fail
  refine (HSH.out _ X3.out).mono ?_
  rintro e w5 ⟨rfl, hb⟩
  have X5 := hide (X3.out.below hb)
  have T5 := hide ((hb.block _ (heap_lt T3.out)).trans T3.out)
  have B5 := hide (B3.out.trans (TurnM.of_below hb X3.out.size))
  clear hb X3 T3 B3 a0 HCH HSH
  go_wp2_with fail
  go_loopw [30] (fun s W => ∃ (i : Nat) (Y : MvS), i ≤ pg ∧ s = .int .i64 (i : Int) ∧ HOk nb pg sz (N + 3 * (i : Int)) Y ∧ Clr pg c i X0 Y ∧ MvAt W B0 A nb pg Y ∧ W.heap[tb]? = some (.cells #[.pointer (some ⟨A.d, 0, none⟩), .pointer (some ⟨A.pp, 0, none⟩), .pointer (some ⟨A.sb, 0, none⟩), .pointer (some ⟨A.mp, 0, none⟩)] 29 (0, 0)) ∧ TurnM B0 w W) (fun s _ => pg - (intOf s).toNat)
  case atStart => exact ⟨0, X0, by omega, rfl, HOK0.out.mono (by omega), clr_zero c HNEG.out HOPN.out, X5.out, T5.out, B5.out⟩
  case round =>
  obtain ⟨i, Y, hip, rfl, hy, hcl, hx, ht, hb⟩ := hrel
  have Y6 := hide hy
  have C6 := hide hcl
  have X6 := hide hx
  have T6 := hide ht
  have B6 := hide hb
  clear hy hcl hx ht hb X5 T5 B5 HOK0 HNEG HOPN
  rcases Nat.lt_or_ge i pg with hlt | hge
  · have hI : (i : Int) < (pg : Int) := by omega
    have HLT := hide hlt
    clear hip hlt
    go_upto_region 10 with (refine rw_store rfl 53 (.tmp 9) (.tmp 35) rfl wr.heap.size rfl #[.int .i64 cz, .int .i64 (i : Int)] rfl _ (heap_new wr _) (by kernel_rfl) rfl (by simp [Value.oneCell']) ?_)
    have XB := hide (heap_new wr (.cells #[.int .i64 0, .int .i64 0] 53))
    have hal := (Below.refl wr.heap.size wr).alloc (Nat.le_refl _) (.cells #[.int .i64 0, .int .i64 0] 53)
    have hbb := setRow_below (hal.trans (Below.refl _ _)) (Nat.le_refl _) hal.size (#[.int .i64 cz, .int .i64 (i : Int)] : Array Value)
    have Q7 := hide (setRow_same (cs := (#[.int .i64 cz, .int .i64 (i : Int)] : Array Value)) XB.out)
    have T7 := hide ((hbb.block _ (heap_lt T6.out)).trans T6.out)
    have X7 := hide (X6.out.below hbb)
    have B7 := hide (B6.out.trans (TurnM.of_below hbb X6.out.size))
    clear hal hbb XB T6 X6 B6
    generalize (wr.alloc (.cells #[.int .i64 0, .int .i64 0] 53)).setRow wr.heap.size (#[.int .i64 cz, .int .i64 (i : Int)] : Array Value) = w7 at *
    generalize wr.heap.size = qb at *
    (try rw [show ∀ (a : Act) (v : Value), a.put none v = a from fun _ _ => rfl])
    go_wp2_with (first | refine rw_load rfl 29 (.tmp 3) rfl tb rfl 29 #[.pointer (some ⟨A.d, 0, none⟩), .pointer (some ⟨A.pp, 0, none⟩), .pointer (some ⟨A.sb, 0, none⟩), .pointer (some ⟨A.mp, 0, none⟩)] (0, 0) _ T7.out Tryz.underlying29 rfl (by kernel_rfl) ?_ | refine rw_load rfl 53 (.tmp 9) rfl qb rfl 53 #[.int .i64 cz, .int .i64 (i : Int)] (0, 0) _ Q7.out Tryz.underlying53 rfl (by kernel_rfl) ?_)
    refine (HNE.out Y i HLT.out _ X7.out).mono ?_
    rintro e w8 ⟨rfl, hb⟩
    have X8 := hide (X7.out.below hb)
    have T8 := hide ((hb.block _ (heap_lt T7.out)).trans T7.out)
    have Q8 := hide ((hb.block _ (heap_lt Q7.out)).trans Q7.out)
    have B8 := hide (B7.out.trans (TurnM.of_below hb X7.out.size))
    clear hb T7 X7 B7 Q7
    cases ho : owner Y.M (cz, (i : Int)) with
    | none =>
      have HSK := hide (clr_skip C6.out (i := i) (by rw [HCZ.out]; exact fun l hl => owner_none ho l (getD_some hl)))
      clear ho
      rw [show (none : Option Nat).isSome = false from rfl]
      go_wp2_with fail
      go_roundw
      case rel => exact ⟨i + 1, Y, HLT.out, by go_num, Y6.out.mono (by omega), HSK.out, X8.out, T8.out, B8.out⟩
      case measure => have := HLT.out; simp [intOf]; omega
    | some l =>
      have hl : Y.M.getD l none = some ((c : Int), (i : Int)) := by
        have h1 := owner_some ho
        rw [HCZ.out]
        simp [List.getD, h1]
      have HL := hide hl
      have hcp : 1 ≤ capX pg Y := by
        have h1 := C6.out.cap
        have h2 := live_pos Y.M l (c : Int) (i : Int) hl
        have h3 := HCAP.out
        omega
      have HMR := hide (HMO.out Y i l HLT.out Y6.out (Y6.out.cap_room hcp) hl)
      clear ho hl hcp
      rw [HCZ.out] at HMR
      rw [show (some l).isSome = true from rfl]
      go_wp2_with (first | refine rw_load rfl 29 (.tmp 3) rfl tb rfl 29 #[.pointer (some ⟨A.d, 0, none⟩), .pointer (some ⟨A.pp, 0, none⟩), .pointer (some ⟨A.sb, 0, none⟩), .pointer (some ⟨A.mp, 0, none⟩)] (0, 0) _ T8.out Tryz.underlying29 rfl (by kernel_rfl) ?_ | refine rw_load rfl 53 (.tmp 9) rfl qb rfl 53 #[.int .i64 cz, .int .i64 (i : Int)] (0, 0) _ Q8.out Tryz.underlying53 rfl (by kernel_rfl) ?_)
      refine (HMR.out _ X8.out).mono ?_
      rintro e w9 ⟨X', k, j, rfl, hp, hm, hb⟩
      have X9 := hide hm
      have T9 := hide (hb.keep T8.out (by decide))
      have B9 := hide (B8.out.trans hb)
      have P9 := hide hp
      have HCM := hide (clr_move C6.out Y6.out HPG.out X8.out.mp.inj HL.out hp)
      have HOM := hide (hp.mapped l (getD_lt HL.out))
      clear hp hm hb X8 T8 B8 Q8 HMR
      go_wp2_with fail
      go_roundw
      case rel => exact ⟨i + 1, _, HLT.out, by go_num, HOM.out.mono (by omega), HCM.out, X9.out, T9.out, B9.out⟩
      case measure => have := HLT.out; simp [intOf]; omega
  · obtain rfl : i = pg := by omega
    clear hip hge
    go_wp2_with fail
    go_ret
    exact ⟨Y, rfl, Y6.out, C6.out, X6.out, B6.out⟩
end
end Go.Proofs.YtmcaegbggblfpaaGreat

namespace Go.Proofs.YtmcaegbggblfpaaGreat
set_option linter.unusedSimpArgs false
set_option linter.unusedVariables false
open Go.RowKit Go.WideShapes Go.ChangeShapes Go.ChangeAt Go.Deep W

section
variable {B0 nb pg sz : Nat} {A : MvA} {X : MvS} {N : Int}
theorem set_ok {L : List (Int × Int)} {c : Nat} (hc : c < L.length) (h2 : (L.getD c (0, 0)).1 = 2) : setE L (c : Int) 1 = 0 ∧ setL L (c : Int) 1 = L.set c (1, (L.getD c (0, 0)).2) := by
  have h : setE L (c : Int) 1 = 0 := by
    unfold setE
    rw [if_pos (by omega), if_neg (by omega), Int.toNat_natCast, if_neg (by omega)]
  refine ⟨h, ?_⟩
  unfold setL
  rw [if_pos h, Int.toNat_natCast]
set_option maxRecDepth 100000 in
set_option maxHeartbeats 8000000 in
theorem free16_no (hok : HOk nb pg sz N X) (c : Nat) (hc : c < nb) (hno : 1 ≤ liveN X.M (c : Int) ∨ X.op = (c : Int) ∨ (X.L.getD c (0, 0)).1 ≠ 2) (w : World) (h : MvAt w B0 A nb pg X) :
    Calls Tryz.prog 14 #[.agg #[.pointer (some ⟨A.d, 0, none⟩), .pointer (some ⟨A.pp, 0, none⟩), .pointer (some ⟨A.sb, 0, none⟩), .pointer (some ⟨A.mp, 0, none⟩)], .int .i64 (c : Int)] w fun e w' => e = .returned (.int .i64 8) ∧ Below w.heap.size w w' := by
  have HAS := hide (fun W (hW : MvAt W B0 A nb pg X) => ask_ok (b := A.b) ⟨A.pp, 0, none⟩ ⟨A.sb, 0, none⟩ ⟨A.mp, 0, none⟩ (c : Int) (by omega) (by rw [hok.dims.1]; omega) W hW.st.drive)
  have HLV := hide (fun W (hW : MvAt W B0 A nb pg X) => live_yes hW.mp c hc)
  have HOP := hide (fun W (hW : MvAt W B0 A nb pg X) => open_any W hW.st)
  have HST := hide (fun W (hW : MvAt W B0 A nb pg X) => state_any A.pp A.pq X.L (c : Int) W hW.st.pool)
  have hfs : fstZ X.L (c : Int) = (X.L.getD c (0, 0)).1 := by
    unfold fstZ
    rw [if_pos (by rw [hok.llen]; omega), Int.toNat_natCast]
  rw [hfs] at HST
  have H := hide h
  have HSZ := hide h.size
  obtain ⟨oz, hoz⟩ : ∃ z, X.op = z := ⟨_, rfl⟩
  obtain ⟨lz, hlz⟩ : ∃ z : Int, ((liveN X.M (c : Int) : Nat) : Int) = z := ⟨_, rfl⟩
  obtain ⟨sz', hsz'⟩ : ∃ z : Int, (X.L.getD c (0, 0)).1 = z := ⟨_, rfl⟩
  obtain ⟨cz, hcz⟩ : ∃ z : Int, (c : Int) = z := ⟨_, rfl⟩
  have hno' : 0 < lz ∨ oz = cz ∨ sz' ≠ 2 := by
    rw [← hoz, ← hlz, ← hsz', ← hcz]
    rcases hno with h | h | h
    · exact .inl (by omega)
    · exact .inr (.inl h)
    · exact .inr (.inr h)
  have hl0 : 0 ≤ lz := by rw [← hlz]; omega
  rw [hoz] at HOP
  rw [hlz] at HLV
  rw [hsz'] at HST
  rw [hcz] at HAS HLV HST ⊢
  clear h hok hc hno hoz hlz hsz' hcz hfs
  have HNO := hide hno'
  have HL0 := hide hl0
  clear hno' hl0
  have X1 := hide (H.out.below ((Below.refl w.heap.size w).alloc (Nat.le_refl _) (.cells #[.pointer (some ⟨A.d, 0, none⟩), .pointer (some ⟨A.pp, 0, none⟩), .pointer (some ⟨A.sb, 0, none⟩), .pointer (some ⟨A.mp, 0, none⟩)] 29)))
  have T1 := hide (heap_new w (.cells #[.pointer (some ⟨A.d, 0, none⟩), .pointer (some ⟨A.pp, 0, none⟩), .pointer (some ⟨A.sb, 0, none⟩), .pointer (some ⟨A.mp, 0, none⟩)] 29))
  have B1 := hide ((Below.refl w.heap.size w).alloc (Nat.le_refl _) (.cells #[.pointer (some ⟨A.d, 0, none⟩), .pointer (some ⟨A.pp, 0, none⟩), .pointer (some ⟨A.sb, 0, none⟩), .pointer (some ⟨A.mp, 0, none⟩)] 29))
  go_enter Tryz.func14, Tryz.ntmps14
  go_upto_region 1 with (fail)
  generalize w.alloc (.cells #[.pointer (some ⟨A.d, 0, none⟩), .pointer (some ⟨A.pp, 0, none⟩), .pointer (some ⟨A.sb, 0, none⟩), .pointer (some ⟨A.mp, 0, none⟩)] 29) = w1 at *
  clear H
  go_wp2_with (refine rw_load rfl 29 (.tmp 2) rfl w.heap.size rfl 29 #[.pointer (some ⟨A.d, 0, none⟩), .pointer (some ⟨A.pp, 0, none⟩), .pointer (some ⟨A.sb, 0, none⟩), .pointer (some ⟨A.mp, 0, none⟩)] (0, 0) _ T1.out Tryz.underlying29 rfl (by kernel_rfl) ?_)
  refine (HAS.out _ X1.out).mono ?_
  rintro e w2 ⟨rfl, hb⟩
  have X2 := hide (X1.out.below hb)
  have T2 := hide ((hb.block _ (heap_lt T1.out)).trans T1.out)
  have B2 := hide (B1.out.trans (hb.mono B1.out.size))
  clear hb X1 T1 B1 HAS
  have a1 := cell_of_block T2.out 1
  have a2 := cell_of_block T2.out 2
  have a3 := cell_of_block T2.out 3
  go_wp2_with fail
  refine (HLV.out _ X2.out).mono ?_
  rintro e w3 ⟨rfl, rfl⟩
  rcases (show 0 < lz ∨ lz = 0 by have := HL0.out; omega) with hp | rfl
  · go_wp2_with fail
    go_ret
    exact ⟨rfl, B2.out⟩
  · go_wp2_with fail
    refine (HOP.out _ X2.out).mono ?_
    rintro e w3 ⟨rfl, rfl⟩
    by_cases e : oz = cz
    · have g0 : (oz == cz) = true := beq_iff_eq.mpr e
      clear e
      go_wp2_with fail
      go_ret
      exact ⟨rfl, B2.out⟩
    · have g0 : (oz == cz) = false := beq_eq_false_iff_ne.mpr e
      have g1 : (sz' != 2) = true := bne_iff_ne.mpr (by
        rcases HNO.out with h | h | h
        · omega
        · exact absurd h e
        · exact h)
      clear e
      go_wp2_with fail
      refine (HST.out _ X2.out).mono ?_
      rintro e w3 ⟨rfl, rfl⟩
      go_wp2_with fail
      go_ret
      exact ⟨rfl, B2.out⟩
set_option maxRecDepth 100000 in
set_option maxHeartbeats 8000000 in
theorem free16_ok (hok : HOk nb pg sz N X) (c : Nat) (hc : c < nb) (hlv : liveN X.M (c : Int) = 0) (hop : X.op ≠ (c : Int)) (hst : (X.L.getD c (0, 0)).1 = 2) (w : World) (h : MvAt w B0 A nb pg X) :
    Calls Tryz.prog 14 #[.agg #[.pointer (some ⟨A.d, 0, none⟩), .pointer (some ⟨A.pp, 0, none⟩), .pointer (some ⟨A.sb, 0, none⟩), .pointer (some ⟨A.mp, 0, none⟩)], .int .i64 (c : Int)] w fun e w' => e = .returned (.int .i64 0) ∧ MvAt w' B0 A nb pg (freeX X c) ∧ TurnM B0 w w' := by
  have hset := set_ok (L := X.L) (c := c) (by rw [hok.llen]; exact hc) hst
  have HSE := hide (fun W (hW : MvAt W B0 A nb pg X) => pset_any A.pp A.pq X.L (c : Int) 1 W hW.st.pool)
  rw [hset.1, hset.2] at HSE
  have HFR := hide (show ∀ W W', MvAt W B0 A nb pg X → PoolAt W' A.pp A.pq (X.L.set c (1, (X.L.getD c (0, 0)).2)) → Only A.pq W W' → MvAt W' B0 A nb pg (freeX X c) ∧ TurnB B0 W W' from fun W W' hW hp ho =>
    ⟨⟨hW.st.poolTo hp ho, hW.mp.keepsT (only_keepsB (Ts := [107]) hW.st.pool.row (by decide) ho) (by decide) (by decide) (by decide), hW.low⟩, TurnB.only hW.st.pool.row ho hW.st.low.2.2.2 hW.size⟩)
  have HAS := hide (fun W (hW : MvAt W B0 A nb pg X) => ask_ok (b := A.b) ⟨A.pp, 0, none⟩ ⟨A.sb, 0, none⟩ ⟨A.mp, 0, none⟩ (c : Int) (by omega) (by rw [hok.dims.1]; omega) W hW.st.drive)
  have HLV := hide (fun W (hW : MvAt W B0 A nb pg X) => live_yes hW.mp c hc)
  have HOP := hide (fun W (hW : MvAt W B0 A nb pg X) => open_any W hW.st)
  have HST := hide (fun W (hW : MvAt W B0 A nb pg X) => state_any A.pp A.pq X.L (c : Int) W hW.st.pool)
  have hfs : fstZ X.L (c : Int) = (X.L.getD c (0, 0)).1 := by
    unfold fstZ
    rw [if_pos (by rw [hok.llen]; omega), Int.toNat_natCast]
  rw [hfs] at HST
  have H := hide h
  have HSZ := hide h.size
  obtain ⟨oz, hoz⟩ : ∃ z, X.op = z := ⟨_, rfl⟩
  obtain ⟨lz, hlz⟩ : ∃ z : Int, ((liveN X.M (c : Int) : Nat) : Int) = z := ⟨_, rfl⟩
  obtain ⟨sz', hsz'⟩ : ∃ z : Int, (X.L.getD c (0, 0)).1 = z := ⟨_, rfl⟩
  obtain ⟨cz, hcz⟩ : ∃ z : Int, (c : Int) = z := ⟨_, rfl⟩
  have g0 : (oz == cz) = false := beq_eq_false_iff_ne.mpr (by rw [← hoz, ← hcz]; exact hop)
  obtain rfl : lz = 0 := by rw [← hlz, hlv]; rfl
  rw [hst] at HST
  rw [hoz] at HOP
  rw [hlz] at HLV
  rw [hcz] at HAS HLV HST HSE ⊢
  clear h hok hc hlv hop hst hoz hlz hsz' hcz hfs hset
  have X1 := hide (H.out.below ((Below.refl w.heap.size w).alloc (Nat.le_refl _) (.cells #[.pointer (some ⟨A.d, 0, none⟩), .pointer (some ⟨A.pp, 0, none⟩), .pointer (some ⟨A.sb, 0, none⟩), .pointer (some ⟨A.mp, 0, none⟩)] 29)))
  have T1 := hide (heap_new w (.cells #[.pointer (some ⟨A.d, 0, none⟩), .pointer (some ⟨A.pp, 0, none⟩), .pointer (some ⟨A.sb, 0, none⟩), .pointer (some ⟨A.mp, 0, none⟩)] 29))
  have B1 := hide ((Below.refl w.heap.size w).alloc (Nat.le_refl _) (.cells #[.pointer (some ⟨A.d, 0, none⟩), .pointer (some ⟨A.pp, 0, none⟩), .pointer (some ⟨A.sb, 0, none⟩), .pointer (some ⟨A.mp, 0, none⟩)] 29))
  go_enter Tryz.func14, Tryz.ntmps14
  go_upto_region 1 with (fail)
  generalize w.alloc (.cells #[.pointer (some ⟨A.d, 0, none⟩), .pointer (some ⟨A.pp, 0, none⟩), .pointer (some ⟨A.sb, 0, none⟩), .pointer (some ⟨A.mp, 0, none⟩)] 29) = w1 at *
  clear H
  go_wp2_with (refine rw_load rfl 29 (.tmp 2) rfl w.heap.size rfl 29 #[.pointer (some ⟨A.d, 0, none⟩), .pointer (some ⟨A.pp, 0, none⟩), .pointer (some ⟨A.sb, 0, none⟩), .pointer (some ⟨A.mp, 0, none⟩)] (0, 0) _ T1.out Tryz.underlying29 rfl (by kernel_rfl) ?_)
  refine (HAS.out _ X1.out).mono ?_
  rintro e w2 ⟨rfl, hb⟩
  have X2 := hide (X1.out.below hb)
  have T2 := hide ((hb.block _ (heap_lt T1.out)).trans T1.out)
  have B2 := hide (B1.out.trans (hb.mono B1.out.size))
  clear hb X1 T1 B1 HAS
  have a1 := cell_of_block T2.out 1
  have a2 := cell_of_block T2.out 2
  have a3 := cell_of_block T2.out 3
  go_wp2_with fail
  refine (HLV.out _ X2.out).mono ?_
  rintro e w3 ⟨rfl, rfl⟩
  go_wp2_with fail
  refine (HOP.out _ X2.out).mono ?_
  rintro e w3 ⟨rfl, rfl⟩
  go_wp2_with fail
  refine (HST.out _ X2.out).mono ?_
  rintro e w3 ⟨rfl, rfl⟩
  go_wp2_with fail
  refine (HSE.out _ X2.out).mono ?_
  rintro e w3 ⟨rfl, hp, ho⟩
  obtain ⟨hm, hb⟩ := HFR.out _ _ X2.out hp ho
  have X3 := hide hm
  have B3 := hide ((TurnM.of_below B2.out HSZ.out).trans (TurnM.of_turnB hb))
  clear hp ho hm hb
  go_wp2_with fail
  go_ret
  exact ⟨rfl, X3.out, B3.out⟩
end
end Go.Proofs.YtmcaegbggblfpaaGreat

namespace Go.Proofs.YtmcaegbggblfpaaGreat
set_option linter.unusedSimpArgs false
set_option linter.unusedVariables false
open Go.RowKit Go.WideShapes Go.ChangeShapes Go.ChangeAt Go.Deep W

theorem full16_any (s : ByteArray) (hs : s.size ≤ 1000000) (n : Nat) (hn : n ≤ 2000) (w : World) :
    Calls Tryz.prog 9 #[.string s, .int .i64 (n : Int)] w fun e w' => e = .returned (.string (fullB s n)) ∧ Below w.heap.size w w' := by
  have HR := hide (show ∀ W, Calls Tryz.prog 31 #[.string ⟨#[85]⟩, .int .i64 (n : Int)] W fun e w' => e = .returned (.string (fillU n)) ∧ Below W.heap.size W w' from fun W => Tryz.strings_Repeat ⟨#[85]⟩ n W (by omega) (by show 1 * n ≤ _; omega))
  have hfs := fillU_size n
  have HF := hide (show fullB s n = (s ++ fillU n).extract 0 n from rfl)
  rw [HF.out]
  generalize fillU n = t at *
  have hsz : (s ++ t).size = s.size + n := by rw [ByteArray.size_append, hfs]
  have hle : (n : Int) ≤ (s.size : Int) + (t.size : Int) := by omega
  have hle2 : (n : Int) ≤ ((s ++ t).size : Int) := by rw [hsz]; omega
  have hno : ¬ 9223372036854775807 < s.size + t.size := by omega
  clear hfs HF
  go_enter Tryz.func9, Tryz.ntmps9
  go_wp2_with fail
  refine (HR.out _).mono ?_
  rintro e w1 ⟨rfl, hb⟩
  have HB := hide hb
  clear hb
  go_wp2_with fail
  go_ret
  exact ⟨rfl, HB.out⟩
theorem res_tct {P : Program} {fn : Func} {x p u : Tmp} {ty : TypeId} (h : fn.results = #[.tmp x, .cell p ty, .tmp u]) (tmps : Array Value) (w : World) (g : Nat) (ty2 : TypeId) (cs : Array Value) (fr : Nat × Nat) (d : TypeDesc)
    (hp : tmps.getD p undef = .pointer (some ⟨g, 0, none⟩)) (hg : w.heap[g]? = some (.cells cs ty2 fr)) (hu : P.underlying ty = some d) (hd : (match d with | .struct _ | .array _ _ => true | _ => false) = true) (hi : (P.info? ty).map (·.size) = some cs.size) :
    (results fn tmps).run P w = .ok (.tuple #[tmps.getD x undef, .agg cs, tmps.getD u undef]) w := by
  have hp' : tmps[p]?.getD undef = .pointer (some ⟨g, 0, none⟩) := by simpa using hp
  simp [results, h, hp', asAddr, run_loadVar_row w g ty2 ty cs fr d hg hu hd hi]
theorem rep_at {α : Type} (n : Nat) (x d : α) (k : Nat) (hk : k < n) : (List.replicate n x).getD k d = x := by simp [List.getD, List.getElem?_replicate, hk]
def mvX0 : MvS := ⟨newS 8 4 32, List.replicate 8 ⟨false, -1⟩, List.replicate 8 (1, 0), -1, 0, List.replicate 6 none, fun _ => (⟨0, 0, 0, 0, 0⟩, [])⟩
theorem mvX0_ok : HOk 8 4 32 0 mvX0 := by
  refine ⟨new_heal 8 4 32 (by decide) (by decide), ⟨newS_len _ _ _, rfl, rfl⟩, rfl, rfl, ?_, ?_, ?_, ?_, ⟨by decide, by decide⟩, .inl ⟨rfl, rfl⟩, ?_⟩
  · intro k hk
    show ((newS 8 4 32).blk k).pages.length = 4
    rw [newS_blk 8 4 32 k hk]
    exact List.length_replicate
  · intro k hk
    show ((List.replicate 8 (⟨false, -1⟩ : KnM)).getD k kn0).bad = false
    rw [rep_at _ _ _ _ hk]
  · intro k hk
    show 0 ≤ ((List.replicate 8 ((1 : Int), (0 : Int))).getD k (0, 0)).2 ∧ ((List.replicate 8 ((1 : Int), (0 : Int))).getD k (0, 0)).2 ≤ 0
    rw [rep_at _ _ _ _ hk]
    decide
  · intro k hk
    show ((List.replicate 8 ((1 : Int), (0 : Int))).getD k (0, 0)).1 = 1 ∨ _
    rw [rep_at _ _ _ _ hk]
    exact .inl rfl
  · intro l x hx
    have hx' : (List.replicate 6 (none : Option (Int × Int))).getD l none = some x := hx
    simp only [List.getD, List.getElem?_replicate] at hx'
    split at hx' <;> cases hx'
def Fresh16 (w : World) (e : Ending) (w' : World) : Prop := ∃ A : MvA, e = .returned (.tuple #[.pointer (some ⟨A.p, 0, none⟩), .agg #[.pointer (some ⟨A.d, 0, none⟩), .pointer (some ⟨A.pp, 0, none⟩), .pointer (some ⟨A.sb, 0, none⟩), .pointer (some ⟨A.mp, 0, none⟩)], .bool true]) ∧ MvAt w' w.heap.size A 8 4 mvX0 ∧ Below w.heap.size w w'
set_option maxRecDepth 100000 in
set_option maxHeartbeats 8000000 in
theorem fresh16 (w : World) : Calls Tryz.prog 7 #[] w (Fresh16 w) := by
  have HNEW := hide (fun W => new_go 8 4 32 (by decide) [] (.slice none 0 0) W (Or.inl ⟨rfl, rfl⟩) (by decide))
  have HD := hide (fun p q B G W (hW : NandAt W p q B G (newS 8 4 32)) => dnew_go W hW)
  have HP := hide (fun W => pnew_yes 8 (by decide) (by decide) W)
  have HB := hide (fun d b p q B G pp pq W (hD : DriveAt W d b p q B G (newS 8 4 32) (List.replicate 8 ⟨false, -1⟩)) (hP : PoolAt W pp pq (List.replicate 8 (1, 0))) => bnew_any 8 (by decide) W hD hP)
  have HW := hide (fun W => newW_yes 8 4 6 (by decide) (by decide) (by decide) (by decide) (by decide) (by decide) W)
  have HRI := hide (fun d pp sb mp W => mright_any (some ⟨d, 0, none⟩) (some ⟨pp, 0, none⟩) (some ⟨sb, 0, none⟩) (some ⟨mp, 0, none⟩) W)
  unfold NewW at HW
  unfold BNewIs at HB
  obtain ⟨B0, hB0⟩ : ∃ B0, w.heap.size = B0 := ⟨_, rfl⟩
  have HLOW := hide (show ∀ (W : World) (p q b d pp pq sb mp mq mo ml B : Nat) (G : Nat → Nat), StAt W B0 sb d b p q B G (newS 8 4 32) (List.replicate 8 ⟨false, -1⟩) pp pq (List.replicate 8 (1, 0)) (-1) 0 → WhereAt W mp mq mo ml 4 8 (List.replicate 6 none) → B0 ≤ mq → B0 ≤ mo → B0 ≤ ml → Below B0 w W → Fresh16 w (.returned (.tuple #[.pointer (some ⟨p, 0, none⟩), .agg #[.pointer (some ⟨d, 0, none⟩), .pointer (some ⟨pp, 0, none⟩), .pointer (some ⟨sb, 0, none⟩), .pointer (some ⟨mp, 0, none⟩)], .bool true])) W from by
    intro W p q b d pp pq sb mp mq mo ml B G hs hm h1 h2 h3 hb
    refine ⟨⟨sb, d, b, p, q, B, G, pp, pq, mp, mq, mo, ml⟩, rfl, ⟨?_, hm, ?_⟩, by rw [hB0]; exact hb⟩
    · rw [hB0]; exact hs
    · rw [hB0]; exact ⟨h1, h2, h3⟩)
  have B0w := hide ((Below.refl w.heap.size w).alloc (Nat.le_refl _) (.cells #[.pointer none, .pointer none, .pointer none, .pointer none] 29))
  rw [hB0] at B0w
  have Rw := hide (show (w.alloc (.cells #[.pointer none, .pointer none, .pointer none, .pointer none] 29)).heap[B0]? = some (.cells #[.pointer none, .pointer none, .pointer none, .pointer none] 29 (0, 0)) by rw [← hB0]; exact heap_new w _)
  have HSW := hide (show B0 + 1 = (w.alloc (.cells #[.pointer none, .pointer none, .pointer none, .pointer none] 29)).heap.size by rw [← hB0]; simp)
  generalize hX : Fresh16 w = Q at HLOW ⊢
  clear hX
  go_enter Tryz.func7, Tryz.ntmps7
  go_upto_region 1 with (fail)
  (try rw [hB0])
  have HEQ := hide hB0
  clear hB0
  generalize w.alloc (.cells #[.pointer none, .pointer none, .pointer none, .pointer none] 29) = w0 at *
  go_wp2_with fail
  refine (HNEW.out _).mono ?_
  rintro e w1 ⟨p, q, G, rfl, hn, hb⟩
  have HN := hide (show NandAt w1 p q w0.heap.size G (newS 8 4 32) from hn)
  have HB0 := hide (show B0 ≤ w0.heap.size from by have := HSW.out; omega)
  have B1 := hide (B0w.out.trans (hb.mono HB0.out))
  have R1 := hide ((hb.block _ (heap_lt Rw.out)).trans Rw.out)
  have HSB := hide (show B0 < w0.heap.size from by have := HSW.out; omega)
  clear hn HNEW hb Rw B0w HSW
  generalize w0.heap.size = B at *
  go_wp2_with fail
  refine (HD.out _ _ _ _ _ HN.out).mono ?_
  rintro e w2 ⟨d, b, rfl, hd, hb2, h1, h2⟩
  have D2 := hide (show DriveAt w2 d b p q B G (newS 8 4 32) (List.replicate 8 ⟨false, -1⟩) from hd)
  have HBB := hide (show B0 ≤ b from by have := B1.out.size; have := HEQ.out; omega)
  have B2 := hide (B1.out.trans (hb2.mono (by have := B1.out.size; have := HEQ.out; omega)))
  have R2 := hide ((hb2.block _ (heap_lt R1.out)).trans R1.out)
  clear hd hb2 h1 h2 HD HN R1 B1
  go_wp2_with fail
  refine (HP.out _).mono ?_
  rintro e w3 ⟨rfl, hp, hb⟩
  have P3 := hide hp
  have D3 := hide (D2.out.below hb)
  have B3 := hide (B2.out.trans (hb.mono (by have := B2.out.size; have := HEQ.out; omega)))
  have R3 := hide ((hb.block _ (heap_lt R2.out)).trans R2.out)
  have HPQ := hide (show B0 ≤ w2.heap.size from by have := B2.out.size; have := HEQ.out; omega)
  clear hp hb HP D2 R2 B2
  generalize w2.heap.size = pq at *
  obtain ⟨pp, hpp⟩ : ∃ pp, pq + 1 = pp := ⟨_, rfl⟩
  rw [hpp] at P3 ⊢
  clear hpp
  go_wp2_with fail
  refine (HB.out _ _ _ _ _ _ _ _ _ D3.out P3.out).mono ?_
  rintro e w4 ⟨hc, hb⟩
  have D4 := hide (D3.out.below hb)
  have P4 := hide (P3.out.below hb)
  have B4 := hide (B3.out.trans (hb.mono (by have := B3.out.size; have := HEQ.out; omega)))
  have R4 := hide ((hb.block _ (heap_lt R3.out)).trans R3.out)
  rcases hc with ⟨-, rfl, hs, hh⟩ | ⟨hne, -⟩
  · have S4 := hide (show StAt w4 B0 (w4.heap.size - 1) d b p q B G (newS 8 4 32) (List.replicate 8 ⟨false, -1⟩) pp pq (List.replicate 8 (1, 0)) (-1) 0 from ⟨hh, D4.out, P4.out, ⟨by have := B3.out.size; have := HEQ.out; omega, HB0.out, HBB.out, HPQ.out⟩⟩)
    clear hb hs hh D3 P3 B3 R3 D4 P4 HB
    generalize w4.heap.size - 1 = sb at *
    go_wp2_with fail
    refine (HW.out _).mono ?_
    rintro e w5 ⟨mp, mq, mo, ml, rfl, hm, hb, g1, g2, g3, g4⟩
    have S5 := hide (S4.out.below hb)
    have W5 := hide hm
    have R5 := hide ((hb.block _ (heap_lt R4.out)).trans R4.out)
    have B5 := hide (B4.out.trans (hb.mono (by have := B4.out.size; have := HEQ.out; omega)))
    have HG := hide (show B0 ≤ mq ∧ B0 ≤ mo ∧ B0 ≤ ml from by have := B4.out.size; have := HEQ.out; omega)
    clear hm hb g1 g2 g3 g4 S4 R4 B4 HW
    have HRI := hide (HRI.out d pp sb mp)
    go_upto_region 7 with (refine rw_store rfl 29 (.tmp 13) (.tmp 42) rfl w5.heap.size rfl #[.pointer (some ⟨d, 0, none⟩), .pointer (some ⟨pp, 0, none⟩), .pointer (some ⟨sb, 0, none⟩), .pointer (some ⟨mp, 0, none⟩)] rfl _ (heap_new w5 _) (by kernel_rfl) rfl (by simp [Value.oneCell']) ?_)
    have XB := hide (heap_new w5 (.cells #[.pointer none, .pointer none, .pointer none, .pointer none] 29))
    have hal := (Below.refl w5.heap.size w5).alloc (Nat.le_refl _) (.cells #[.pointer none, .pointer none, .pointer none, .pointer none] 29)
    have hbb := setRow_below (hal.trans (Below.refl _ _)) (Nat.le_refl _) hal.size (#[.pointer (some ⟨d, 0, none⟩), .pointer (some ⟨pp, 0, none⟩), .pointer (some ⟨sb, 0, none⟩), .pointer (some ⟨mp, 0, none⟩)] : Array Value)
    have M6 := hide (setRow_same (cs := (#[.pointer (some ⟨d, 0, none⟩), .pointer (some ⟨pp, 0, none⟩), .pointer (some ⟨sb, 0, none⟩), .pointer (some ⟨mp, 0, none⟩)] : Array Value)) XB.out)
    have S6 := hide (S5.out.below hbb)
    have W6 := hide (W5.out.below hbb)
    have R6 := hide ((hbb.block _ (heap_lt R5.out)).trans R5.out)
    have B6 := hide (B5.out.trans (hbb.mono (by have := B5.out.size; have := HEQ.out; omega)))
    have HRM := hide (show B0 ≠ w5.heap.size from by have := heap_lt R5.out; omega)
    clear hal hbb XB S5 W5 R5 B5
    generalize (w5.alloc (.cells #[.pointer none, .pointer none, .pointer none, .pointer none] 29)).setRow w5.heap.size (#[.pointer (some ⟨d, 0, none⟩), .pointer (some ⟨pp, 0, none⟩), .pointer (some ⟨sb, 0, none⟩), .pointer (some ⟨mp, 0, none⟩)] : Array Value) = w6 at *
    generalize w5.heap.size = mb at *
    have S0 := hide S6.out.drew
    have W0 := hide W6.out.drew
    have M0 := hide (show w6.drew.heap[mb]? = _ from M6.out)
    have R0 := hide (show w6.drew.heap[B0]? = _ from R6.out)
    have B0' := hide (show Below B0 w w6.drew from B6.out.drew)
    have HEND := hide (show ∀ W, W.heap[B0]? = some (.cells #[.pointer (some ⟨d, 0, none⟩), .pointer (some ⟨pp, 0, none⟩), .pointer (some ⟨sb, 0, none⟩), .pointer (some ⟨mp, 0, none⟩)] 29 (0, 0)) → StAt W B0 sb d b p q B G (newS 8 4 32) (List.replicate 8 ⟨false, -1⟩) pp pq (List.replicate 8 (1, 0)) (-1) 0 → WhereAt W mp mq mo ml 4 8 (List.replicate 6 none) → Below B0 w W → Q (.returned (.tuple #[.pointer (some ⟨p, 0, none⟩), .agg #[.pointer (some ⟨d, 0, none⟩), .pointer (some ⟨pp, 0, none⟩), .pointer (some ⟨sb, 0, none⟩), .pointer (some ⟨mp, 0, none⟩)], .bool true])) W from fun W _ hs hm hb => HLOW.out W p q b d pp pq sb mp mq mo ml B G hs hm HG.out.1 HG.out.2.1 HG.out.2.2 hb)
    have HRB := hide (Nat.le_refl B0)
    clear S6 W6 M6 R6 B6 HLOW HG HPQ HBB HB0 HSB
    clear HEQ
    generalize newS 8 4 32 = SS at *
    generalize List.replicate 8 (⟨false, -1⟩ : KnM) = KK at *
    generalize (List.replicate 8 ((1 : Int), (0 : Int))) = LL at *
    (try rw [show ∀ (a : Act) (v : Value), a.put none v = a from fun _ _ => rfl])
    refine wp_region_held_drew (S := (fun W => W.heap[mb]? = some (.cells #[.pointer (some ⟨d, 0, none⟩), .pointer (some ⟨pp, 0, none⟩), .pointer (some ⟨sb, 0, none⟩), .pointer (some ⟨mp, 0, none⟩)] 29 (0, 0)))) (by kernel_rfl) (M0.out) (fun hHeld => ?_)
    generalize w6.drew = v0 at *
    refine wpAnyH_take (i := 0) (oi := { dst := some 43, op := Op.move (Operand.tmp 3), type := 23, pos := "law.go:42", after := #[], guard := none }) (v := ?_) rfl (by kernel_rfl) (by kernel_rfl) (by kernel_rfl) (fun _ _ _ h => h) (Or.inl ⟨by kernel_rfl, ?_⟩) hHeld ?_
    rotate_left
    · (intro w hSw; (try dsimp only at hSw); have e0 := cell_of_block hSw 0; have e1 := cell_of_block hSw 1; have e2 := cell_of_block hSw 2; have e3 := cell_of_block hSw 3; go_simp); try with_reducible rfl
    try simp only [Act.put, List.setIfInBounds_toArray, List.set_cons_zero, List.set_cons_succ]
    refine wpAnyH_take (i := 1) (oi := { dst := some 44, op := Op.load 29 (Operand.tmp 13), type := 29, pos := "law.go:42", after := #[{ on := 24, ground := Ground.gcOnly Departure.lateStores }], guard := none }) (v := ?_) rfl (by kernel_rfl) (by kernel_rfl) (by kernel_rfl) (fun _ _ _ h => h) (Or.inl ⟨by kernel_rfl, ?_⟩) hHeld ?_
    rotate_left
    · (intro w hSw; (try dsimp only at hSw); have e0 := cell_of_block hSw 0; have e1 := cell_of_block hSw 1; have e2 := cell_of_block hSw 2; have e3 := cell_of_block hSw 3; go_simp); try with_reducible rfl
    try simp only [Act.put, List.setIfInBounds_toArray, List.set_cons_zero, List.set_cons_succ]
    refine wpAnyH_take (i := 2) (oi := { dst := some 45, op := Op.move (Operand.tmp 4), type := 40, pos := "law.go:42", after := #[], guard := none }) (v := ?_) rfl (by kernel_rfl) (by kernel_rfl) (by kernel_rfl) (fun _ _ _ h => h) (Or.inl ⟨by kernel_rfl, ?_⟩) hHeld ?_
    rotate_left
    · (intro w hSw; (try dsimp only at hSw); have e0 := cell_of_block hSw 0; have e1 := cell_of_block hSw 1; have e2 := cell_of_block hSw 2; have e3 := cell_of_block hSw 3; go_simp); try with_reducible rfl
    try simp only [Act.put, List.setIfInBounds_toArray, List.set_cons_zero, List.set_cons_succ]
    refine wpAnyH_take (i := 3) (oi := { dst := some 46, op := Op.binOp BinOp.eql 40 (Operand.tmp 45) (Operand.const (Value.int IntKind.i64 0)) 40, type := 4, pos := "law.go:42", after := #[{ on := 2, ground := Ground.data }], guard := none }) (v := ?_) rfl (by kernel_rfl) (by kernel_rfl) (by kernel_rfl) (fun _ _ _ h => h) (Or.inl ⟨by kernel_rfl, ?_⟩) hHeld ?_
    rotate_left
    · (intro w hSw; (try dsimp only at hSw); have e0 := cell_of_block hSw 0; have e1 := cell_of_block hSw 1; have e2 := cell_of_block hSw 2; have e3 := cell_of_block hSw 3; go_simp); try with_reducible rfl
    try simp only [Act.put, List.setIfInBounds_toArray, List.set_cons_zero, List.set_cons_succ]
    refine wpAnyH_take (i := 4) (oi := { dst := some 47, op := Op.move (Operand.tmp 46), type := 4, pos := "law.go:42", after := #[{ on := 3, ground := Ground.data }], guard := none }) (v := ?_) rfl (by kernel_rfl) (by kernel_rfl) (by kernel_rfl) (fun _ _ _ h => h) (Or.inl ⟨by kernel_rfl, ?_⟩) hHeld ?_
    rotate_left
    · (intro w hSw; (try dsimp only at hSw); have e0 := cell_of_block hSw 0; have e1 := cell_of_block hSw 1; have e2 := cell_of_block hSw 2; have e3 := cell_of_block hSw 3; go_simp); try with_reducible rfl
    try simp only [Act.put, List.setIfInBounds_toArray, List.set_cons_zero, List.set_cons_succ]
    refine wpAnyH_take (i := 5) (oi := { dst := some 48, op := Op.move (Operand.tmp 6), type := 40, pos := "law.go:42", after := #[{ on := 4, ground := Ground.guard }], guard := some (4, true) }) (v := ?_) rfl (by kernel_rfl) (by kernel_rfl) (by kernel_rfl) (fun _ _ _ h => h) (Or.inl ⟨by kernel_rfl, ?_⟩) hHeld ?_
    rotate_left
    · (intro w hSw; (try dsimp only at hSw); have e0 := cell_of_block hSw 0; have e1 := cell_of_block hSw 1; have e2 := cell_of_block hSw 2; have e3 := cell_of_block hSw 3; go_simp); try with_reducible rfl
    try simp only [Act.put, List.setIfInBounds_toArray, List.set_cons_zero, List.set_cons_succ]
    refine wpAnyH_take (i := 6) (oi := { dst := some 49, op := Op.binOp BinOp.eql 40 (Operand.tmp 48) (Operand.const (Value.int IntKind.i64 0)) 40, type := 4, pos := "law.go:42", after := #[{ on := 5, ground := Ground.data }, { on := 4, ground := Ground.guard }], guard := some (4, true) }) (v := ?_) rfl (by kernel_rfl) (by kernel_rfl) (by kernel_rfl) (fun _ _ _ h => h) (Or.inl ⟨by kernel_rfl, ?_⟩) hHeld ?_
    rotate_left
    · (intro w hSw; (try dsimp only at hSw); have e0 := cell_of_block hSw 0; have e1 := cell_of_block hSw 1; have e2 := cell_of_block hSw 2; have e3 := cell_of_block hSw 3; go_simp); try with_reducible rfl
    try simp only [Act.put, List.setIfInBounds_toArray, List.set_cons_zero, List.set_cons_succ]
    refine wpAnyH_take (i := 7) (oi := { dst := some 50, op := Op.pick (Operand.tmp 47) (Operand.tmp 49) (Operand.const (Value.bool false)), type := 4, pos := "law.go:42", after := #[{ on := 4, ground := Ground.data }, { on := 6, ground := Ground.data }], guard := none }) (v := ?_) rfl (by kernel_rfl) (by kernel_rfl) (by kernel_rfl) (fun _ _ _ h => h) (Or.inl ⟨by kernel_rfl, ?_⟩) hHeld ?_
    rotate_left
    · (intro w hSw; (try dsimp only at hSw); have e0 := cell_of_block hSw 0; have e1 := cell_of_block hSw 1; have e2 := cell_of_block hSw 2; have e3 := cell_of_block hSw 3; go_simp); try with_reducible rfl
    try simp only [Act.put, List.setIfInBounds_toArray, List.set_cons_zero, List.set_cons_succ]
    refine wpAnyH_take (i := 8) (oi := { dst := some 51, op := Op.move (Operand.tmp 50), type := 4, pos := "law.go:42", after := #[{ on := 7, ground := Ground.data }, { on := 4, ground := Ground.chain }], guard := none }) (v := ?_) rfl (by kernel_rfl) (by kernel_rfl) (by kernel_rfl) (fun _ _ _ h => h) (Or.inl ⟨by kernel_rfl, ?_⟩) hHeld ?_
    rotate_left
    · (intro w hSw; (try dsimp only at hSw); have e0 := cell_of_block hSw 0; have e1 := cell_of_block hSw 1; have e2 := cell_of_block hSw 2; have e3 := cell_of_block hSw 3; go_simp); try with_reducible rfl
    try simp only [Act.put, List.setIfInBounds_toArray, List.set_cons_zero, List.set_cons_succ]
    refine wpAnyH_take (i := 9) (oi := { dst := some 52, op := Op.move (Operand.tmp 8), type := 40, pos := "law.go:42", after := #[{ on := 8, ground := Ground.guard }], guard := some (8, true) }) (v := ?_) rfl (by kernel_rfl) (by kernel_rfl) (by kernel_rfl) (fun _ _ _ h => h) (Or.inl ⟨by kernel_rfl, ?_⟩) hHeld ?_
    rotate_left
    · (intro w hSw; (try dsimp only at hSw); have e0 := cell_of_block hSw 0; have e1 := cell_of_block hSw 1; have e2 := cell_of_block hSw 2; have e3 := cell_of_block hSw 3; go_simp); try with_reducible rfl
    try simp only [Act.put, List.setIfInBounds_toArray, List.set_cons_zero, List.set_cons_succ]
    refine wpAnyH_take (i := 10) (oi := { dst := some 53, op := Op.binOp BinOp.eql 40 (Operand.tmp 52) (Operand.const (Value.int IntKind.i64 0)) 40, type := 4, pos := "law.go:42", after := #[{ on := 9, ground := Ground.data }, { on := 8, ground := Ground.guard }], guard := some (8, true) }) (v := ?_) rfl (by kernel_rfl) (by kernel_rfl) (by kernel_rfl) (fun _ _ _ h => h) (Or.inl ⟨by kernel_rfl, ?_⟩) hHeld ?_
    rotate_left
    · (intro w hSw; (try dsimp only at hSw); have e0 := cell_of_block hSw 0; have e1 := cell_of_block hSw 1; have e2 := cell_of_block hSw 2; have e3 := cell_of_block hSw 3; go_simp); try with_reducible rfl
    try simp only [Act.put, List.setIfInBounds_toArray, List.set_cons_zero, List.set_cons_succ]
    refine wpAnyH_take (i := 11) (oi := { dst := some 54, op := Op.pick (Operand.tmp 51) (Operand.tmp 53) (Operand.const (Value.bool false)), type := 4, pos := "law.go:42", after := #[{ on := 8, ground := Ground.data }, { on := 10, ground := Ground.data }], guard := none }) (v := ?_) rfl (by kernel_rfl) (by kernel_rfl) (by kernel_rfl) (fun _ _ _ h => h) (Or.inl ⟨by kernel_rfl, ?_⟩) hHeld ?_
    rotate_left
    · (intro w hSw; (try dsimp only at hSw); have e0 := cell_of_block hSw 0; have e1 := cell_of_block hSw 1; have e2 := cell_of_block hSw 2; have e3 := cell_of_block hSw 3; go_simp); try with_reducible rfl
    try simp only [Act.put, List.setIfInBounds_toArray, List.set_cons_zero, List.set_cons_succ]
    refine wpAnyH_take (i := 12) (oi := { dst := some 55, op := Op.move (Operand.tmp 54), type := 4, pos := "law.go:42", after := #[{ on := 11, ground := Ground.data }, { on := 8, ground := Ground.chain }], guard := none }) (v := ?_) rfl (by kernel_rfl) (by kernel_rfl) (by kernel_rfl) (fun _ _ _ h => h) (Or.inl ⟨by kernel_rfl, ?_⟩) hHeld ?_
    rotate_left
    · (intro w hSw; (try dsimp only at hSw); have e0 := cell_of_block hSw 0; have e1 := cell_of_block hSw 1; have e2 := cell_of_block hSw 2; have e3 := cell_of_block hSw 3; go_simp); try with_reducible rfl
    try simp only [Act.put, List.setIfInBounds_toArray, List.set_cons_zero, List.set_cons_succ]
    refine wpAnyH_take (i := 13) (oi := { dst := some 56, op := Op.move (Operand.tmp 10), type := 40, pos := "law.go:42", after := #[{ on := 12, ground := Ground.guard }], guard := some (12, true) }) (v := ?_) rfl (by kernel_rfl) (by kernel_rfl) (by kernel_rfl) (fun _ _ _ h => h) (Or.inl ⟨by kernel_rfl, ?_⟩) hHeld ?_
    rotate_left
    · (intro w hSw; (try dsimp only at hSw); have e0 := cell_of_block hSw 0; have e1 := cell_of_block hSw 1; have e2 := cell_of_block hSw 2; have e3 := cell_of_block hSw 3; go_simp); try with_reducible rfl
    try simp only [Act.put, List.setIfInBounds_toArray, List.set_cons_zero, List.set_cons_succ]
    refine wpAnyH_take (i := 14) (oi := { dst := some 57, op := Op.binOp BinOp.eql 40 (Operand.tmp 56) (Operand.const (Value.int IntKind.i64 0)) 40, type := 4, pos := "law.go:42", after := #[{ on := 13, ground := Ground.data }, { on := 12, ground := Ground.guard }], guard := some (12, true) }) (v := ?_) rfl (by kernel_rfl) (by kernel_rfl) (by kernel_rfl) (fun _ _ _ h => h) (Or.inl ⟨by kernel_rfl, ?_⟩) hHeld ?_
    rotate_left
    · (intro w hSw; (try dsimp only at hSw); have e0 := cell_of_block hSw 0; have e1 := cell_of_block hSw 1; have e2 := cell_of_block hSw 2; have e3 := cell_of_block hSw 3; go_simp); try with_reducible rfl
    try simp only [Act.put, List.setIfInBounds_toArray, List.set_cons_zero, List.set_cons_succ]
    refine wpAnyH_take (i := 15) (oi := { dst := some 58, op := Op.pick (Operand.tmp 55) (Operand.tmp 57) (Operand.const (Value.bool false)), type := 4, pos := "law.go:42", after := #[{ on := 12, ground := Ground.data }, { on := 14, ground := Ground.data }], guard := none }) (v := ?_) rfl (by kernel_rfl) (by kernel_rfl) (by kernel_rfl) (fun _ _ _ h => h) (Or.inl ⟨by kernel_rfl, ?_⟩) hHeld ?_
    rotate_left
    · (intro w hSw; (try dsimp only at hSw); have e0 := cell_of_block hSw 0; have e1 := cell_of_block hSw 1; have e2 := cell_of_block hSw 2; have e3 := cell_of_block hSw 3; go_simp); try with_reducible rfl
    try simp only [Act.put, List.setIfInBounds_toArray, List.set_cons_zero, List.set_cons_succ]
    refine wpAnyH_take (i := 16) (oi := { dst := some 59, op := Op.move (Operand.tmp 58), type := 4, pos := "law.go:42", after := #[{ on := 15, ground := Ground.data }, { on := 12, ground := Ground.chain }], guard := none }) (v := ?_) rfl (by kernel_rfl) (by kernel_rfl) (by kernel_rfl) (fun _ _ _ h => h) (Or.inl ⟨by kernel_rfl, ?_⟩) hHeld ?_
    rotate_left
    · (intro w hSw; (try dsimp only at hSw); have e0 := cell_of_block hSw 0; have e1 := cell_of_block hSw 1; have e2 := cell_of_block hSw 2; have e3 := cell_of_block hSw 3; go_simp); try with_reducible rfl
    try simp only [Act.put, List.setIfInBounds_toArray, List.set_cons_zero, List.set_cons_succ]
    refine wpAnyH_take (i := 17) (oi := { dst := some 60, op := Op.move (Operand.tmp 12), type := 40, pos := "law.go:42", after := #[{ on := 16, ground := Ground.guard }], guard := some (16, true) }) (v := ?_) rfl (by kernel_rfl) (by kernel_rfl) (by kernel_rfl) (fun _ _ _ h => h) (Or.inl ⟨by kernel_rfl, ?_⟩) hHeld ?_
    rotate_left
    · (intro w hSw; (try dsimp only at hSw); have e0 := cell_of_block hSw 0; have e1 := cell_of_block hSw 1; have e2 := cell_of_block hSw 2; have e3 := cell_of_block hSw 3; go_simp); try with_reducible rfl
    try simp only [Act.put, List.setIfInBounds_toArray, List.set_cons_zero, List.set_cons_succ]
    refine wpAnyH_take (i := 18) (oi := { dst := some 61, op := Op.binOp BinOp.eql 40 (Operand.tmp 60) (Operand.const (Value.int IntKind.i64 0)) 40, type := 4, pos := "law.go:42", after := #[{ on := 17, ground := Ground.data }, { on := 16, ground := Ground.guard }], guard := some (16, true) }) (v := ?_) rfl (by kernel_rfl) (by kernel_rfl) (by kernel_rfl) (fun _ _ _ h => h) (Or.inl ⟨by kernel_rfl, ?_⟩) hHeld ?_
    rotate_left
    · (intro w hSw; (try dsimp only at hSw); have e0 := cell_of_block hSw 0; have e1 := cell_of_block hSw 1; have e2 := cell_of_block hSw 2; have e3 := cell_of_block hSw 3; go_simp); try with_reducible rfl
    try simp only [Act.put, List.setIfInBounds_toArray, List.set_cons_zero, List.set_cons_succ]
    refine wpAnyH_take (i := 19) (oi := { dst := some 62, op := Op.pick (Operand.tmp 59) (Operand.tmp 61) (Operand.const (Value.bool false)), type := 4, pos := "law.go:42", after := #[{ on := 16, ground := Ground.data }, { on := 18, ground := Ground.data }], guard := none }) (v := ?_) rfl (by kernel_rfl) (by kernel_rfl) (by kernel_rfl) (fun _ _ _ h => h) (Or.inl ⟨by kernel_rfl, ?_⟩) hHeld ?_
    rotate_left
    · (intro w hSw; (try dsimp only at hSw); have e0 := cell_of_block hSw 0; have e1 := cell_of_block hSw 1; have e2 := cell_of_block hSw 2; have e3 := cell_of_block hSw 3; go_simp); try with_reducible rfl
    try simp only [Act.put, List.setIfInBounds_toArray, List.set_cons_zero, List.set_cons_succ]
    refine wpAnyH_take (i := 20) (oi := { dst := some 63, op := Op.move (Operand.tmp 62), type := 4, pos := "law.go:42", after := #[{ on := 19, ground := Ground.data }, { on := 16, ground := Ground.chain }], guard := none }) (v := ?_) rfl (by kernel_rfl) (by kernel_rfl) (by kernel_rfl) (fun _ _ _ h => h) (Or.inl ⟨by kernel_rfl, ?_⟩) hHeld ?_
    rotate_left
    · (intro w hSw; (try dsimp only at hSw); have e0 := cell_of_block hSw 0; have e1 := cell_of_block hSw 1; have e2 := cell_of_block hSw 2; have e3 := cell_of_block hSw 3; go_simp); try with_reducible rfl
    try simp only [Act.put, List.setIfInBounds_toArray, List.set_cons_zero, List.set_cons_succ]
    refine wpAnyH_take (i := 21) (oi := { dst := some 64, op := Op.load 29 (Operand.tmp 13), type := 29, pos := "law.go:42", after := #[{ on := 20, ground := Ground.guard }], guard := some (20, true) }) (v := ?_) rfl (by kernel_rfl) (by kernel_rfl) (by kernel_rfl) (fun _ _ _ h => h) (Or.inl ⟨by kernel_rfl, ?_⟩) hHeld ?_
    rotate_left
    · (intro w hSw; (try dsimp only at hSw); have e0 := cell_of_block hSw 0; have e1 := cell_of_block hSw 1; have e2 := cell_of_block hSw 2; have e3 := cell_of_block hSw 3; go_simp); try with_reducible rfl
    try simp only [Act.put, List.setIfInBounds_toArray, List.set_cons_zero, List.set_cons_succ]
    refine wpAnyH_ready (rs := [22]) (by kernel_rfl) (by simp) (AllReadyH.cons (o := { dst := some 65, op := Op.call { callee := Callee.value (Operand.func 25), args := #[Operand.tmp 64], argTypes := #[29] }, type := 4, pos := "law.go:42", after := #[{ on := 21, ground := Ground.data }, { on := 20, ground := Ground.chain }, { on := 20, ground := Ground.guard }], guard := some (20, true) }) rfl (fun K hK => ?_) AllReadyH.nil)
    have hOld := hide hHeld
    clear hHeld
    go_simp
    refine (HRI.out _).mono ?_
    rintro e v1 ⟨rfl, hb⟩
    have S1 := hide (S0.out.below hb)
    have W1 := hide (W0.out.below hb)
    have M1 := hide ((hb.block _ (heap_lt M0.out)).trans M0.out)
    have R1 := hide ((hb.block _ (heap_lt R0.out)).trans R0.out)
    have B1 := hide (B0'.out.trans (hb.mono S0.out.size))
    clear hb
    (try go_wp2_with fail)
    refine hK.out _ _ (M1.out) (fun hHeld => ?_)
    clear hK K hOld
    try simp only [Act.put, List.setIfInBounds_toArray, List.set_cons_zero, List.set_cons_succ]
    refine wpAnyH_take (i := 23) (oi := { dst := some 66, op := Op.pick (Operand.tmp 63) (Operand.tmp 65) (Operand.const (Value.bool false)), type := 4, pos := "law.go:42", after := #[{ on := 20, ground := Ground.data }, { on := 22, ground := Ground.data }, { on := 25, ground := Ground.gcOnly Departure.lateStores }], guard := none }) (v := ?_) rfl (by kernel_rfl) (by kernel_rfl) (by kernel_rfl) (fun _ _ _ h => h) (Or.inl ⟨by kernel_rfl, ?_⟩) hHeld ?_
    rotate_left
    · (intro w hSw; (try dsimp only at hSw); have e0 := cell_of_block hSw 0; have e1 := cell_of_block hSw 1; have e2 := cell_of_block hSw 2; have e3 := cell_of_block hSw 3; go_simp); try with_reducible rfl
    try simp only [Act.put, List.setIfInBounds_toArray, List.set_cons_zero, List.set_cons_succ]
    refine wpAnyH_take (i := 24) (oi := { dst := some 0, op := Op.assign (Operand.tmp 43), type := 23, pos := "law.go:42", after := #[{ on := 0, ground := Ground.data }, { on := 22, ground := Ground.chain }, { on := 0, ground := Ground.phase }, { on := 1, ground := Ground.textOnly Departure.lateStores }, { on := 2, ground := Ground.textOnly Departure.lateStores }, { on := 3, ground := Ground.textOnly Departure.lateStores }, { on := 4, ground := Ground.textOnly Departure.lateStores }, { on := 5, ground := Ground.textOnly Departure.lateStores }, { on := 6, ground := Ground.textOnly Departure.lateStores }, { on := 7, ground := Ground.textOnly Departure.lateStores }, { on := 8, ground := Ground.textOnly Departure.lateStores }, { on := 9, ground := Ground.textOnly Departure.lateStores }, { on := 10, ground := Ground.textOnly Departure.lateStores }, { on := 11, ground := Ground.textOnly Departure.lateStores }, { on := 12, ground := Ground.textOnly Departure.lateStores }, { on := 13, ground := Ground.textOnly Departure.lateStores }, { on := 14, ground := Ground.textOnly Departure.lateStores }, { on := 15, ground := Ground.textOnly Departure.lateStores }, { on := 16, ground := Ground.textOnly Departure.lateStores }, { on := 17, ground := Ground.textOnly Departure.lateStores }, { on := 18, ground := Ground.textOnly Departure.lateStores }, { on := 19, ground := Ground.textOnly Departure.lateStores }, { on := 20, ground := Ground.textOnly Departure.lateStores }, { on := 21, ground := Ground.textOnly Departure.lateStores }, { on := 22, ground := Ground.textOnly Departure.lateStoresUnsure }, { on := 23, ground := Ground.textOnly Departure.lateStores }], guard := none }) (v := ?_) rfl (by kernel_rfl) (by kernel_rfl) (by kernel_rfl) (fun _ _ _ h => h) (Or.inl ⟨by kernel_rfl, ?_⟩) hHeld ?_
    rotate_left
    · (intro w hSw; (try dsimp only at hSw); have e0 := cell_of_block hSw 0; have e1 := cell_of_block hSw 1; have e2 := cell_of_block hSw 2; have e3 := cell_of_block hSw 3; go_simp); try with_reducible rfl
    try simp only [Act.put, List.setIfInBounds_toArray, List.set_cons_zero, List.set_cons_succ]
    refine wpAnyH_ready (rs := [25]) (by kernel_rfl) (by simp) (AllReadyH.cons (o := { dst := none, op := Op.store 29 (Operand.tmp 1) (Operand.tmp 44), type := 0, pos := "law.go:42", after := #[{ on := 1, ground := Ground.data }, { on := 24, ground := Ground.chain }, { on := 0, ground := Ground.phase }, { on := 1, ground := Ground.phase }, { on := 2, ground := Ground.textOnly Departure.lateStores }, { on := 3, ground := Ground.textOnly Departure.lateStores }, { on := 4, ground := Ground.textOnly Departure.lateStores }, { on := 5, ground := Ground.textOnly Departure.lateStores }, { on := 6, ground := Ground.textOnly Departure.lateStores }, { on := 7, ground := Ground.textOnly Departure.lateStores }, { on := 8, ground := Ground.textOnly Departure.lateStores }, { on := 9, ground := Ground.textOnly Departure.lateStores }, { on := 10, ground := Ground.textOnly Departure.lateStores }, { on := 11, ground := Ground.textOnly Departure.lateStores }, { on := 12, ground := Ground.textOnly Departure.lateStores }, { on := 13, ground := Ground.textOnly Departure.lateStores }, { on := 14, ground := Ground.textOnly Departure.lateStores }, { on := 15, ground := Ground.textOnly Departure.lateStores }, { on := 16, ground := Ground.textOnly Departure.lateStores }, { on := 17, ground := Ground.textOnly Departure.lateStores }, { on := 18, ground := Ground.textOnly Departure.lateStores }, { on := 19, ground := Ground.textOnly Departure.lateStores }, { on := 20, ground := Ground.textOnly Departure.lateStores }, { on := 21, ground := Ground.textOnly Departure.lateStores }, { on := 22, ground := Ground.textOnly Departure.lateStoresUnsure }, { on := 23, ground := Ground.textOnly Departure.lateStores }, { on := 24, ground := Ground.phase }], guard := none }) rfl (fun K hK => ?_) AllReadyH.nil)
    have hOld := hide hHeld
    clear hHeld
    refine rw_storeO 29 (.tmp 1) (.tmp 44) rfl B0 rfl #[.pointer (some ⟨d, 0, none⟩), .pointer (some ⟨pp, 0, none⟩), .pointer (some ⟨sb, 0, none⟩), .pointer (some ⟨mp, 0, none⟩)] rfl _ R1.out (by kernel_rfl) rfl (by simp [Value.oneCell']) ?_
    have KF := setRow_keeps (Ts := [29]) R1.out (by decide) (#[.pointer (some ⟨d, 0, none⟩), .pointer (some ⟨pp, 0, none⟩), .pointer (some ⟨sb, 0, none⟩), .pointer (some ⟨mp, 0, none⟩)] : Array Value)
    have R2 := hide (setRow_same (cs := (#[.pointer (some ⟨d, 0, none⟩), .pointer (some ⟨pp, 0, none⟩), .pointer (some ⟨sb, 0, none⟩), .pointer (some ⟨mp, 0, none⟩)] : Array Value)) R1.out)
    have S2 := hide (S1.out.keepsT KF (by decide) (by decide) (by decide) (by decide) (by decide) (by decide) (by decide) (by decide))
    have W2 := hide (W1.out.keepsT KF (by decide) (by decide) (by decide))
    have M2 := hide ((setRow_diff (cs := (#[.pointer (some ⟨d, 0, none⟩), .pointer (some ⟨pp, 0, none⟩), .pointer (some ⟨sb, 0, none⟩), .pointer (some ⟨mp, 0, none⟩)] : Array Value)) HRM.out).trans M1.out)
    have B2 := hide (setRow_below B1.out HRB.out S1.out.size (#[.pointer (some ⟨d, 0, none⟩), .pointer (some ⟨pp, 0, none⟩), .pointer (some ⟨sb, 0, none⟩), .pointer (some ⟨mp, 0, none⟩)] : Array Value))
    clear KF
    generalize v1.setRow B0 (#[.pointer (some ⟨d, 0, none⟩), .pointer (some ⟨pp, 0, none⟩), .pointer (some ⟨sb, 0, none⟩), .pointer (some ⟨mp, 0, none⟩)] : Array Value) = v2 at *
    refine hK.out _ _ (M2.out) (fun hHeld => ?_)
    clear hK K hOld
    try simp only [Act.put, List.setIfInBounds_toArray, List.set_cons_zero, List.set_cons_succ]
    refine wpAnyH_take (i := 26) (oi := { dst := some 2, op := Op.assign (Operand.tmp 66), type := 4, pos := "law.go:42", after := #[{ on := 23, ground := Ground.data }, { on := 25, ground := Ground.chain }, { on := 0, ground := Ground.phase }, { on := 1, ground := Ground.phase }, { on := 2, ground := Ground.phase }, { on := 3, ground := Ground.phase }, { on := 4, ground := Ground.phase }, { on := 5, ground := Ground.phase }, { on := 6, ground := Ground.phase }, { on := 7, ground := Ground.phase }, { on := 8, ground := Ground.phase }, { on := 9, ground := Ground.phase }, { on := 10, ground := Ground.phase }, { on := 11, ground := Ground.phase }, { on := 12, ground := Ground.phase }, { on := 13, ground := Ground.phase }, { on := 14, ground := Ground.phase }, { on := 15, ground := Ground.phase }, { on := 16, ground := Ground.phase }, { on := 17, ground := Ground.phase }, { on := 18, ground := Ground.phase }, { on := 19, ground := Ground.phase }, { on := 20, ground := Ground.phase }, { on := 21, ground := Ground.phase }, { on := 22, ground := Ground.phase }, { on := 23, ground := Ground.phase }, { on := 24, ground := Ground.phase }, { on := 25, ground := Ground.phase }], guard := none }) (v := ?_) rfl (by kernel_rfl) (by kernel_rfl) (by kernel_rfl) (fun _ _ _ h => h) (Or.inl ⟨by kernel_rfl, ?_⟩) hHeld ?_
    rotate_left
    · (intro w hSw; (try dsimp only at hSw); have e0 := cell_of_block hSw 0; have e1 := cell_of_block hSw 1; have e2 := cell_of_block hSw 2; have e3 := cell_of_block hSw 3; go_simp); try with_reducible rfl
    try simp only [Act.put, List.setIfInBounds_toArray, List.set_cons_zero, List.set_cons_succ]
    refine wpAnyH_done (by kernel_rfl) ?_ _
    clear hHeld
    go_wp2_with fail
    (try simp only [Exit.inBlock, Exit.then])
    refine bodyPost_ret (res_tct (P := Tryz.prog) rfl _ _ B0 29 (#[.pointer (some ⟨d, 0, none⟩), .pointer (some ⟨pp, 0, none⟩), .pointer (some ⟨sb, 0, none⟩), .pointer (some ⟨mp, 0, none⟩)] : Array Value) (0, 0) _ rfl R2.out Tryz.underlying29 rfl (by kernel_rfl)) rfl ?_
    exact HEND.out _ R2.out S2.out W2.out B2.out
  · exact absurd rfl hne
end Go.Proofs.YtmcaegbggblfpaaGreat

namespace Go.Proofs.YtmcaegbggblfpaaGreat
set_option linter.unusedSimpArgs false
set_option linter.unusedVariables false
open Go.RowKit Go.WideShapes Go.ChangeShapes Go.ChangeAt Go.Deep W

theorem cap_shut {nb pg sz : Nat} {N : Int} {X : MvS} (h : HOk nb pg sz N X) (hpg : 2 ≤ pg) (c : Nat) : capX pg X - ((pg : Int) - 1) ≤ capX pg (shutX X c) := by
  have hr := h.room
  unfold shutX
  split
  · show capX pg X - _ ≤ (0 : Int) + ((pg : Int) - 1) * (freeN X.L : Int)
    unfold capX
    omega
  · omega
theorem capX_new : capX 4 mvX0 = 24 := by decide +kernel
/-- a page of a logical page, as it is read -/
theorem has_read {nb pg sz : Nat} {N : Int} {X : MvS} (h : HOk nb pg sz N X) {l : Nat} {x : Int × Int} (hx : X.M.getD l none = some x) :
    ∃ k j : Nat, x = ((k : Int), (j : Int)) ∧ k < nb ∧ j < pg ∧ (X.D l).1.ok ∧ (X.D l).2.length = sz ∧ askE X.S (k : Int) (j : Int) = 0 ∧ readP X.S (k : Int) (j : Int) = (bs (X.D l).2, bs (frameL (X.D l).1.k (X.D l).1.l (X.D l).1.s (X.D l).1.n (X.D l).1.m (X.D l).2)) := by
  obtain ⟨k, j, rfl, h1, h2, h3, h4, h5⟩ := h.has l x hx
  have ha : askE X.S (k : Int) (j : Int) = 0 := askE_yes h.heal.off (by rw [h.dims.1]; exact h1) (by rw [h.dims.2.1]; exact h2)
  refine ⟨k, j, rfl, h1, h2, h5.ok, h5.len, ha, ?_⟩
  unfold readP
  rw [if_pos ha, Int.toNat_natCast, Int.toNat_natCast]
  exact h5.page
theorem eql_tag16 (W : World) : (binOp BinOp.eql 51 (.agg #[.int .u8 1, .int .i64 2, .int .u64 9, .int .i64 0, .int .i64 1]) (.agg #[.int .u8 1, .int .i64 2, .int .u64 9, .int .i64 0, .int .i64 1])).run Tryz.prog W = .ok (.bool true) W := by kernel_rfl
theorem guard_tag16 (x y : Operand) (a b : Array Value) (w : World) : (eqGuard .eql 51 x y (.agg a) (.agg b)).run Tryz.prog w = .ok () w := run_eqGuard_agg w .eql 51 x y a b (by kernel_rfl)
set_option maxRecDepth 100000 in
set_option maxHeartbeats 8000000 in
theorem wakes16 (w : World) : Calls Tryz.prog 8 #[] w fun e w' => e = .returned (.bool true) ∧ Below w.heap.size w w' := by
  have HFR := hide (fun W => fresh16 W)
  unfold Fresh16 at HFR
  have HFU := hide (fun W => full16_any ⟨#[97]⟩ (by decide) 32 (by decide) W)
  have hfz : (fullB ⟨#[97]⟩ 32).size = 32 := fullB_size _ _
  obtain ⟨td, htd⟩ : ∃ td : List UInt8, td = (fullB ⟨#[97]⟩ 32).data.toList := ⟨_, rfl⟩
  have htb : fullB ⟨#[97]⟩ 32 = bs td := by rw [htd]; rfl
  have hl : td.length = 32 := by rw [htb] at hfz; exact hfz
  rw [htb] at HFU
  clear htd hfz htb
  have HPU0 := hide (fun B0 A W (hW : MvAt W B0 A 8 4 mvX0) => put16 mvX0_ok (by decide) (by decide) (by decide) (by decide) (.inr (by decide +kernel)) ⟨1, 2, 9, 0, 1⟩ (by unfold TgM.ok TagOk; decide) td hl W hW)
  unfold Put16 at HPU0
  dsimp only at HPU0
  obtain ⟨Xs, hX0⟩ : ∃ Xs, mvX0 = Xs := ⟨_, rfl⟩
  have HC0 := hide (show capX 4 Xs = 24 ∧ Xs.M.length = 6 by rw [← hX0]; exact ⟨capX_new, rfl⟩)
  have HOK0 := hide (show HOk 8 4 32 0 Xs by rw [← hX0]; exact mvX0_ok)
  rw [hX0] at HFR HPU0
  have HLEN := hide hl
  clear hX0 hl
  obtain ⟨B0, hB0⟩ : ∃ B0, w.heap.size = B0 := ⟨_, rfl⟩
  rw [hB0]
  go_enter Tryz.func8, Tryz.ntmps8
  go_wp2_with fail
  refine (HFR.out _).mono ?_
  rintro e w1 ⟨A, rfl, hm, hb⟩
  rw [hB0] at hm hb
  have X1 := hide hm
  have B1 := hide hb
  clear hm hb HFR hB0
  have HPU := hide (HPU0.out B0 A)
  clear HPU0
  go_upto_region 2 with (refine rw_store rfl 29 (.tmp 2) (.tmp 17) rfl w1.heap.size rfl #[.pointer (some ⟨A.d, 0, none⟩), .pointer (some ⟨A.pp, 0, none⟩), .pointer (some ⟨A.sb, 0, none⟩), .pointer (some ⟨A.mp, 0, none⟩)] rfl _ (heap_new w1 _) (by kernel_rfl) rfl (by simp [Value.oneCell']) ?_)
  have XB := hide (heap_new w1 (.cells #[.pointer none, .pointer none, .pointer none, .pointer none] 29))
  have hal := (Below.refl w1.heap.size w1).alloc (Nat.le_refl _) (.cells #[.pointer none, .pointer none, .pointer none, .pointer none] 29)
  have hbb := setRow_below (hal.trans (Below.refl _ _)) (Nat.le_refl _) hal.size (#[.pointer (some ⟨A.d, 0, none⟩), .pointer (some ⟨A.pp, 0, none⟩), .pointer (some ⟨A.sb, 0, none⟩), .pointer (some ⟨A.mp, 0, none⟩)] : Array Value)
  have M2 := hide (setRow_same (cs := (#[.pointer (some ⟨A.d, 0, none⟩), .pointer (some ⟨A.pp, 0, none⟩), .pointer (some ⟨A.sb, 0, none⟩), .pointer (some ⟨A.mp, 0, none⟩)] : Array Value)) XB.out)
  have X2 := hide (X1.out.below hbb)
  have B2 := hide (B1.out.trans (hbb.mono X1.out.size))
  clear hal hbb XB X1 B1 
  generalize (w1.alloc (.cells #[.pointer none, .pointer none, .pointer none, .pointer none] 29)).setRow w1.heap.size (#[.pointer (some ⟨A.d, 0, none⟩), .pointer (some ⟨A.pp, 0, none⟩), .pointer (some ⟨A.sb, 0, none⟩), .pointer (some ⟨A.mp, 0, none⟩)] : Array Value) = w2 at *
  generalize w1.heap.size = mb at *
  (try rw [show ∀ (a : Act) (v : Value), a.put none v = a from fun _ _ => rfl])
  go_upto_region 3 with (refine rw_store rfl 51 (.tmp 4) (.tmp 19) rfl w2.heap.size rfl #[.int .u8 1, .int .i64 2, .int .u64 9, .int .i64 0, .int .i64 1] rfl _ (heap_new w2 _) (by kernel_rfl) rfl (by simp [Value.oneCell']) ?_)
  have XB := hide (heap_new w2 (.cells #[.int .u8 0, .int .i64 0, .int .u64 0, .int .i64 0, .int .i64 0] 51))
  have hal := (Below.refl w2.heap.size w2).alloc (Nat.le_refl _) (.cells #[.int .u8 0, .int .i64 0, .int .u64 0, .int .i64 0, .int .i64 0] 51)
  have hbb := setRow_below (hal.trans (Below.refl _ _)) (Nat.le_refl _) hal.size (#[.int .u8 1, .int .i64 2, .int .u64 9, .int .i64 0, .int .i64 1] : Array Value)
  have T3 := hide (setRow_same (cs := (#[.int .u8 1, .int .i64 2, .int .u64 9, .int .i64 0, .int .i64 1] : Array Value)) XB.out)
  have M3 := hide ((hbb.block _ (heap_lt M2.out)).trans M2.out)
  have X3 := hide (X2.out.below hbb)
  have B3 := hide (B2.out.trans (hbb.mono X2.out.size))
  clear hal hbb XB X2 B2 M2
  generalize (w2.alloc (.cells #[.int .u8 0, .int .i64 0, .int .u64 0, .int .i64 0, .int .i64 0] 51)).setRow w2.heap.size (#[.int .u8 1, .int .i64 2, .int .u64 9, .int .i64 0, .int .i64 1] : Array Value) = w3 at *
  generalize w2.heap.size = tb at *
  (try rw [show ∀ (a : Act) (v : Value), a.put none v = a from fun _ _ => rfl])
  have X0 := hide X3.out.drew
  have M0 := hide (show w3.drew.heap[mb]? = _ from M3.out)
  have T0 := hide (show w3.drew.heap[tb]? = _ from T3.out)
  have BB0 := hide (show Below B0 w w3.drew from B3.out.drew)
  clear X3 M3 T3 B3
  go_cut [5, 6] from 20 to 28 (fun s5 s6 W => ∃ (ab k j : Nat) (Y : MvS), s5 = .pointer (some ⟨ab, 0, none⟩) ∧ s6 = .int .i64 0 ∧ PutX 8 4 32 0 Xs Y k j ⟨1, 2, 9, 0, 1⟩ td ∧ MvAt W B0 A 8 4 Y ∧ W.heap[ab]? = some (.cells #[.int .i64 (k : Int), .int .i64 (j : Int)] 53 (0, 0)) ∧ W.heap[mb]? = some (.cells #[.pointer (some ⟨A.d, 0, none⟩), .pointer (some ⟨A.pp, 0, none⟩), .pointer (some ⟨A.sb, 0, none⟩), .pointer (some ⟨A.mp, 0, none⟩)] 29 (0, 0)) ∧ W.heap[tb]? = some (.cells #[.int .u8 1, .int .i64 2, .int .u64 9, .int .i64 0, .int .i64 1] 51 (0, 0)) ∧ Below B0 w W)
  case first =>
    refine wp_region_held_drew (S := (fun W => W.heap[mb]? = some (.cells #[.pointer (some ⟨A.d, 0, none⟩), .pointer (some ⟨A.pp, 0, none⟩), .pointer (some ⟨A.sb, 0, none⟩), .pointer (some ⟨A.mp, 0, none⟩)] 29 (0, 0)) ∧ W.heap[tb]? = some (.cells #[.int .u8 1, .int .i64 2, .int .u64 9, .int .i64 0, .int .i64 1] 51 (0, 0)))) (by kernel_rfl) (⟨M0.out, T0.out⟩) (fun hHeld => ?_)
    generalize w3.drew = v0 at *
    refine wpAnyH_take (i := 0) (oi := { dst := some 21, op := Op.fieldAddr 29 (Operand.tmp 2) 2, type := 0, pos := "law.go:49", after := #[], guard := none }) (v := ?_) rfl (by kernel_rfl) (by kernel_rfl) (by kernel_rfl) (fun _ _ _ h => h) (Or.inl ⟨by kernel_rfl, ?_⟩) hHeld ?_
    rotate_left
    · (intro w hSw; (try dsimp only at hSw); have m0 := cell_of_block hSw.1 0; have m1 := cell_of_block hSw.1 1; have m2 := cell_of_block hSw.1 2; have m3 := cell_of_block hSw.1 3; have e0 := cell_of_block hSw.2 0; have e1 := cell_of_block hSw.2 1; have e2 := cell_of_block hSw.2 2; have e3 := cell_of_block hSw.2 3; have e4 := cell_of_block hSw.2 4; go_simp); try with_reducible rfl
    try simp only [Act.put, List.setIfInBounds_toArray, List.set_cons_zero, List.set_cons_succ]
    refine wpAnyH_take (i := 1) (oi := { dst := some 22, op := Op.load 26 (Operand.tmp 21), type := 26, pos := "law.go:49", after := #[{ on := 0, ground := Ground.data }], guard := none }) (v := ?_) rfl (by kernel_rfl) (by kernel_rfl) (by kernel_rfl) (fun _ _ _ h => h) (Or.inl ⟨by kernel_rfl, ?_⟩) hHeld ?_
    rotate_left
    · (intro w hSw; (try dsimp only at hSw); have m0 := cell_of_block hSw.1 0; have m1 := cell_of_block hSw.1 1; have m2 := cell_of_block hSw.1 2; have m3 := cell_of_block hSw.1 3; have e0 := cell_of_block hSw.2 0; have e1 := cell_of_block hSw.2 1; have e2 := cell_of_block hSw.2 2; have e3 := cell_of_block hSw.2 3; have e4 := cell_of_block hSw.2 4; go_simp); try with_reducible rfl
    try simp only [Act.put, List.setIfInBounds_toArray, List.set_cons_zero, List.set_cons_succ]
    refine wpAnyH_take (i := 2) (oi := { dst := some 23, op := Op.load 51 (Operand.tmp 4), type := 51, pos := "law.go:49", after := #[], guard := none }) (v := ?_) rfl (by kernel_rfl) (by kernel_rfl) (by kernel_rfl) (fun _ _ _ h => h) (Or.inl ⟨by kernel_rfl, ?_⟩) hHeld ?_
    rotate_left
    · (intro w hSw; (try dsimp only at hSw); have m0 := cell_of_block hSw.1 0; have m1 := cell_of_block hSw.1 1; have m2 := cell_of_block hSw.1 2; have m3 := cell_of_block hSw.1 3; have e0 := cell_of_block hSw.2 0; have e1 := cell_of_block hSw.2 1; have e2 := cell_of_block hSw.2 2; have e3 := cell_of_block hSw.2 3; have e4 := cell_of_block hSw.2 4; go_simp); try with_reducible rfl
    try simp only [Act.put, List.setIfInBounds_toArray, List.set_cons_zero, List.set_cons_succ]
    refine wpAnyH_ready (rs := [3, 8]) (by kernel_rfl) (by simp) (AllReadyH.cons (o := { dst := some 24, op := Op.call { callee := Callee.value (Operand.func 9), args := #[Operand.const (Value.string { data := #[97] }), Operand.const (Value.int IntKind.i64 32)], argTypes := #[9, 3] }, type := 9, pos := "law.go:49", after := #[], guard := none }) rfl (fun K hK => ?_) (AllReadyH.cons (o := { dst := some 5, op := Op.alloc 53, type := 0, pos := "law.go:49", after := #[], guard := none }) rfl (fun K hK => ?_) AllReadyH.nil))
    · have hOld := hide hHeld
      clear hHeld
      go_simp
      refine (HFU.out _).mono ?_
      rintro e v1 ⟨rfl, hb⟩
      have X1 := hide (X0.out.below hb)
      have M1 := hide ((hb.block _ (heap_lt M0.out)).trans M0.out)
      have T1 := hide ((hb.block _ (heap_lt T0.out)).trans T0.out)
      have BB1 := hide (BB0.out.trans (hb.mono X0.out.size))
      clear hb
      (try go_wp2_with fail)
      refine hK.out _ _ (⟨M1.out, T1.out⟩) (fun hHeld => ?_)
      clear hK K hOld
      try simp only [Act.put, List.setIfInBounds_toArray, List.set_cons_zero, List.set_cons_succ]
      refine wpAnyH_ready (rs := [4, 8]) (by kernel_rfl) (by simp) (AllReadyH.cons (o := { dst := some 25, op := Op.call { callee := Callee.value (Operand.func 16), args := #[Operand.tmp 22, Operand.tmp 23, Operand.tmp 24], argTypes := #[26, 51, 9] }, type := 54, pos := "law.go:49", after := #[{ on := 1, ground := Ground.data }, { on := 2, ground := Ground.data }, { on := 3, ground := Ground.data }, { on := 3, ground := Ground.chain }], guard := none }) rfl (fun K hK => ?_) (AllReadyH.cons (o := { dst := some 5, op := Op.alloc 53, type := 0, pos := "law.go:49", after := #[], guard := none }) rfl (fun K hK => ?_) AllReadyH.nil))
      · have hOld := hide hHeld
        clear hHeld
        go_simp
        refine (HPU.out _ X1.out).mono ?_
        rintro e v2 ⟨Y, k, j, rfl, hp, hs, hb⟩
        have HP := hide hp
        have X2 := hide hs
        have M2 := hide (hb.2.cells M1.out (by decide))
        have T2 := hide (hb.2.cells T1.out (by decide))
        have BB2 := hide (BB1.out.trans hb.1)
        clear hp hs hb
        (try go_wp2_with fail)
        refine hK.out _ _ (⟨M2.out, T2.out⟩) (fun hHeld => ?_)
        clear hK K hOld
        try simp only [Act.put, List.setIfInBounds_toArray, List.set_cons_zero, List.set_cons_succ]
        refine wpAnyH_take (i := 5) (oi := { dst := some 20, op := Op.move (Operand.tmp 25), type := 54, pos := "law.go:49", after := #[{ on := 4, ground := Ground.data }], guard := none }) (v := ?_) rfl (by kernel_rfl) (by kernel_rfl) (by kernel_rfl) (fun _ _ _ h => h) (Or.inl ⟨by kernel_rfl, ?_⟩) hHeld ?_
        rotate_left
        · (intro w hSw; (try dsimp only at hSw); have m0 := cell_of_block hSw.1 0; have m1 := cell_of_block hSw.1 1; have m2 := cell_of_block hSw.1 2; have m3 := cell_of_block hSw.1 3; have e0 := cell_of_block hSw.2 0; have e1 := cell_of_block hSw.2 1; have e2 := cell_of_block hSw.2 2; have e3 := cell_of_block hSw.2 3; have e4 := cell_of_block hSw.2 4; go_simp); try with_reducible rfl
        try simp only [Act.put, List.setIfInBounds_toArray, List.set_cons_zero, List.set_cons_succ]
        refine wpAnyH_take (i := 6) (oi := { dst := some 26, op := Op.extract (Operand.tmp 20) 0, type := 53, pos := "law.go:49", after := #[{ on := 5, ground := Ground.data }], guard := none }) (v := ?_) rfl (by kernel_rfl) (by kernel_rfl) (by kernel_rfl) (fun _ _ _ h => h) (Or.inl ⟨by kernel_rfl, ?_⟩) hHeld ?_
        rotate_left
        · (intro w hSw; (try dsimp only at hSw); have m0 := cell_of_block hSw.1 0; have m1 := cell_of_block hSw.1 1; have m2 := cell_of_block hSw.1 2; have m3 := cell_of_block hSw.1 3; have e0 := cell_of_block hSw.2 0; have e1 := cell_of_block hSw.2 1; have e2 := cell_of_block hSw.2 2; have e3 := cell_of_block hSw.2 3; have e4 := cell_of_block hSw.2 4; go_simp); try with_reducible rfl
        try simp only [Act.put, List.setIfInBounds_toArray, List.set_cons_zero, List.set_cons_succ]
        refine wpAnyH_take (i := 7) (oi := { dst := some 27, op := Op.extract (Operand.tmp 20) 1, type := 40, pos := "law.go:49", after := #[{ on := 5, ground := Ground.data }, { on := 9, ground := Ground.gcOnly Departure.lateStores }], guard := none }) (v := ?_) rfl (by kernel_rfl) (by kernel_rfl) (by kernel_rfl) (fun _ _ _ h => h) (Or.inl ⟨by kernel_rfl, ?_⟩) hHeld ?_
        rotate_left
        · (intro w hSw; (try dsimp only at hSw); have m0 := cell_of_block hSw.1 0; have m1 := cell_of_block hSw.1 1; have m2 := cell_of_block hSw.1 2; have m3 := cell_of_block hSw.1 3; have e0 := cell_of_block hSw.2 0; have e1 := cell_of_block hSw.2 1; have e2 := cell_of_block hSw.2 2; have e3 := cell_of_block hSw.2 3; have e4 := cell_of_block hSw.2 4; go_simp); try with_reducible rfl
        try simp only [Act.put, List.setIfInBounds_toArray, List.set_cons_zero, List.set_cons_succ]
        refine wpAnyH_ready (rs := [8]) (by kernel_rfl) (by simp) (AllReadyH.cons (o := { dst := some 5, op := Op.alloc 53, type := 0, pos := "law.go:49", after := #[], guard := none }) rfl (fun K hK => ?_) AllReadyH.nil)
        have hOld := hide hHeld
        clear hHeld
        go_simp
        have hal := (Below.refl v2.heap.size v2).alloc (Nat.le_refl _) (.cells #[.int .i64 0, .int .i64 0] 53)
        have A3 := hide (heap_new v2 (.cells #[.int .i64 0, .int .i64 0] 53))
        have X3 := hide (X2.out.below hal)
        have M3 := hide ((hal.block _ (heap_lt M2.out)).trans M2.out)
        have T3 := hide ((hal.block _ (heap_lt T2.out)).trans T2.out)
        have BB3 := hide (BB2.out.trans (hal.mono X2.out.size))
        have HAB := hide (show B0 ≤ v2.heap.size from X2.out.size)
        clear hal
        generalize v2.alloc (.cells #[.int .i64 0, .int .i64 0] 53) = v3 at *
        generalize v2.heap.size = ab at *
        (try go_wp2_with fail)
        refine hK.out _ _ (⟨M3.out, T3.out⟩) (fun hHeld => ?_)
        clear hK K hOld
        try simp only [Act.put, List.setIfInBounds_toArray, List.set_cons_zero, List.set_cons_succ]
        refine wpAnyH_ready (rs := [9]) (by kernel_rfl) (by simp) (AllReadyH.cons (o := { dst := none, op := Op.store 53 (Operand.tmp 5) (Operand.tmp 26), type := 0, pos := "law.go:49", after := #[{ on := 8, ground := Ground.data }, { on := 6, ground := Ground.data }, { on := 4, ground := Ground.chain }, { on := 0, ground := Ground.phase }, { on := 1, ground := Ground.phase }, { on := 2, ground := Ground.phase }, { on := 3, ground := Ground.phase }, { on := 4, ground := Ground.phase }, { on := 5, ground := Ground.phase }, { on := 6, ground := Ground.phase }, { on := 7, ground := Ground.textOnly Departure.lateStores }, { on := 8, ground := Ground.phase }], guard := none }) rfl (fun K hK => ?_) AllReadyH.nil)
        have hOld := hide hHeld
        clear hHeld
        refine rw_storeO 53 (.tmp 5) (.tmp 26) rfl ab rfl #[.int .i64 (k : Int), .int .i64 (j : Int)] rfl _ A3.out (by kernel_rfl) rfl (by simp [Value.oneCell']) ?_
        have KF := setRow_keeps (Ts := [53]) A3.out (by decide) (#[.int .i64 (k : Int), .int .i64 (j : Int)] : Array Value)
        have A4 := hide (setRow_same (cs := (#[.int .i64 (k : Int), .int .i64 (j : Int)] : Array Value)) A3.out)
        have X4 := hide (X3.out.keepsT KF (by decide) (by decide) (by decide) (by decide) (by decide) (by decide) (by decide) (by decide) (by decide) (by decide) (by decide))
        have M4 := hide (KF.cells M3.out (by decide))
        have T4 := hide (KF.cells T3.out (by decide))
        have BB4 := hide (setRow_below BB3.out HAB.out X3.out.size (#[.int .i64 (k : Int), .int .i64 (j : Int)] : Array Value))
        clear KF
        generalize v3.setRow ab (#[.int .i64 (k : Int), .int .i64 (j : Int)] : Array Value) = v4 at *
        refine hK.out _ _ (⟨M4.out, T4.out⟩) (fun hHeld => ?_)
        clear hK K hOld
        try simp only [Act.put, List.setIfInBounds_toArray, List.set_cons_zero, List.set_cons_succ]
        refine wpAnyH_take (i := 10) (oi := { dst := some 6, op := Op.assign (Operand.tmp 27), type := 40, pos := "law.go:49", after := #[{ on := 7, ground := Ground.data }, { on := 9, ground := Ground.chain }, { on := 0, ground := Ground.phase }, { on := 1, ground := Ground.phase }, { on := 2, ground := Ground.phase }, { on := 3, ground := Ground.phase }, { on := 4, ground := Ground.phase }, { on := 5, ground := Ground.phase }, { on := 6, ground := Ground.phase }, { on := 7, ground := Ground.phase }, { on := 8, ground := Ground.phase }, { on := 9, ground := Ground.phase }], guard := none }) (v := ?_) rfl (by kernel_rfl) (by kernel_rfl) (by kernel_rfl) (fun _ _ _ h => h) (Or.inl ⟨by kernel_rfl, ?_⟩) hHeld ?_
        rotate_left
        · (intro w hSw; (try dsimp only at hSw); have m0 := cell_of_block hSw.1 0; have m1 := cell_of_block hSw.1 1; have m2 := cell_of_block hSw.1 2; have m3 := cell_of_block hSw.1 3; have e0 := cell_of_block hSw.2 0; have e1 := cell_of_block hSw.2 1; have e2 := cell_of_block hSw.2 2; have e3 := cell_of_block hSw.2 3; have e4 := cell_of_block hSw.2 4; go_simp); try with_reducible rfl
        try simp only [Act.put, List.setIfInBounds_toArray, List.set_cons_zero, List.set_cons_succ]
        refine wpAnyH_done (by kernel_rfl) ?_ _
        clear hHeld
        go_wp2_with fail
        go_meet
        exact ⟨ab, k, j, Y, rfl, rfl, HP.out, X4.out, A4.out, M4.out, T4.out, BB4.out⟩
      · have hOld := hide hHeld
        clear hHeld
        go_simp
        have hal := (Below.refl v1.heap.size v1).alloc (Nat.le_refl _) (.cells #[.int .i64 0, .int .i64 0] 53)
        have A2 := hide (heap_new v1 (.cells #[.int .i64 0, .int .i64 0] 53))
        have X2 := hide (X1.out.below hal)
        have M2 := hide ((hal.block _ (heap_lt M1.out)).trans M1.out)
        have T2 := hide ((hal.block _ (heap_lt T1.out)).trans T1.out)
        have BB2 := hide (BB1.out.trans (hal.mono X1.out.size))
        have HAB := hide (show B0 ≤ v1.heap.size from X1.out.size)
        clear hal
        generalize v1.alloc (.cells #[.int .i64 0, .int .i64 0] 53) = v2 at *
        generalize v1.heap.size = ab at *
        (try go_wp2_with fail)
        refine hK.out _ _ (⟨M2.out, T2.out⟩) (fun hHeld => ?_)
        clear hK K hOld
        try simp only [Act.put, List.setIfInBounds_toArray, List.set_cons_zero, List.set_cons_succ]
        refine wpAnyH_ready (rs := [4]) (by kernel_rfl) (by simp) (AllReadyH.cons (o := { dst := some 25, op := Op.call { callee := Callee.value (Operand.func 16), args := #[Operand.tmp 22, Operand.tmp 23, Operand.tmp 24], argTypes := #[26, 51, 9] }, type := 54, pos := "law.go:49", after := #[{ on := 1, ground := Ground.data }, { on := 2, ground := Ground.data }, { on := 3, ground := Ground.data }, { on := 3, ground := Ground.chain }], guard := none }) rfl (fun K hK => ?_) AllReadyH.nil)
        have hOld := hide hHeld
        clear hHeld
        go_simp
        refine (HPU.out _ X2.out).mono ?_
        rintro e v3 ⟨Y, k, j, rfl, hp, hs, hb⟩
        have HP := hide hp
        have X3 := hide hs
        have M3 := hide (hb.2.cells M2.out (by decide))
        have T3 := hide (hb.2.cells T2.out (by decide))
        have A3 := hide (hb.2.cells A2.out (by decide))
        have BB3 := hide (BB2.out.trans hb.1)
        clear hp hs hb
        (try go_wp2_with fail)
        refine hK.out _ _ (⟨M3.out, T3.out⟩) (fun hHeld => ?_)
        clear hK K hOld
        try simp only [Act.put, List.setIfInBounds_toArray, List.set_cons_zero, List.set_cons_succ]
        refine wpAnyH_take (i := 5) (oi := { dst := some 20, op := Op.move (Operand.tmp 25), type := 54, pos := "law.go:49", after := #[{ on := 4, ground := Ground.data }], guard := none }) (v := ?_) rfl (by kernel_rfl) (by kernel_rfl) (by kernel_rfl) (fun _ _ _ h => h) (Or.inl ⟨by kernel_rfl, ?_⟩) hHeld ?_
        rotate_left
        · (intro w hSw; (try dsimp only at hSw); have m0 := cell_of_block hSw.1 0; have m1 := cell_of_block hSw.1 1; have m2 := cell_of_block hSw.1 2; have m3 := cell_of_block hSw.1 3; have e0 := cell_of_block hSw.2 0; have e1 := cell_of_block hSw.2 1; have e2 := cell_of_block hSw.2 2; have e3 := cell_of_block hSw.2 3; have e4 := cell_of_block hSw.2 4; go_simp); try with_reducible rfl
        try simp only [Act.put, List.setIfInBounds_toArray, List.set_cons_zero, List.set_cons_succ]
        refine wpAnyH_take (i := 6) (oi := { dst := some 26, op := Op.extract (Operand.tmp 20) 0, type := 53, pos := "law.go:49", after := #[{ on := 5, ground := Ground.data }], guard := none }) (v := ?_) rfl (by kernel_rfl) (by kernel_rfl) (by kernel_rfl) (fun _ _ _ h => h) (Or.inl ⟨by kernel_rfl, ?_⟩) hHeld ?_
        rotate_left
        · (intro w hSw; (try dsimp only at hSw); have m0 := cell_of_block hSw.1 0; have m1 := cell_of_block hSw.1 1; have m2 := cell_of_block hSw.1 2; have m3 := cell_of_block hSw.1 3; have e0 := cell_of_block hSw.2 0; have e1 := cell_of_block hSw.2 1; have e2 := cell_of_block hSw.2 2; have e3 := cell_of_block hSw.2 3; have e4 := cell_of_block hSw.2 4; go_simp); try with_reducible rfl
        try simp only [Act.put, List.setIfInBounds_toArray, List.set_cons_zero, List.set_cons_succ]
        refine wpAnyH_take (i := 7) (oi := { dst := some 27, op := Op.extract (Operand.tmp 20) 1, type := 40, pos := "law.go:49", after := #[{ on := 5, ground := Ground.data }, { on := 9, ground := Ground.gcOnly Departure.lateStores }], guard := none }) (v := ?_) rfl (by kernel_rfl) (by kernel_rfl) (by kernel_rfl) (fun _ _ _ h => h) (Or.inl ⟨by kernel_rfl, ?_⟩) hHeld ?_
        rotate_left
        · (intro w hSw; (try dsimp only at hSw); have m0 := cell_of_block hSw.1 0; have m1 := cell_of_block hSw.1 1; have m2 := cell_of_block hSw.1 2; have m3 := cell_of_block hSw.1 3; have e0 := cell_of_block hSw.2 0; have e1 := cell_of_block hSw.2 1; have e2 := cell_of_block hSw.2 2; have e3 := cell_of_block hSw.2 3; have e4 := cell_of_block hSw.2 4; go_simp); try with_reducible rfl
        try simp only [Act.put, List.setIfInBounds_toArray, List.set_cons_zero, List.set_cons_succ]
        refine wpAnyH_ready (rs := [9]) (by kernel_rfl) (by simp) (AllReadyH.cons (o := { dst := none, op := Op.store 53 (Operand.tmp 5) (Operand.tmp 26), type := 0, pos := "law.go:49", after := #[{ on := 8, ground := Ground.data }, { on := 6, ground := Ground.data }, { on := 4, ground := Ground.chain }, { on := 0, ground := Ground.phase }, { on := 1, ground := Ground.phase }, { on := 2, ground := Ground.phase }, { on := 3, ground := Ground.phase }, { on := 4, ground := Ground.phase }, { on := 5, ground := Ground.phase }, { on := 6, ground := Ground.phase }, { on := 7, ground := Ground.textOnly Departure.lateStores }, { on := 8, ground := Ground.phase }], guard := none }) rfl (fun K hK => ?_) AllReadyH.nil)
        have hOld := hide hHeld
        clear hHeld
        refine rw_storeO 53 (.tmp 5) (.tmp 26) rfl ab rfl #[.int .i64 (k : Int), .int .i64 (j : Int)] rfl _ A3.out (by kernel_rfl) rfl (by simp [Value.oneCell']) ?_
        have KF := setRow_keeps (Ts := [53]) A3.out (by decide) (#[.int .i64 (k : Int), .int .i64 (j : Int)] : Array Value)
        have A4 := hide (setRow_same (cs := (#[.int .i64 (k : Int), .int .i64 (j : Int)] : Array Value)) A3.out)
        have X4 := hide (X3.out.keepsT KF (by decide) (by decide) (by decide) (by decide) (by decide) (by decide) (by decide) (by decide) (by decide) (by decide) (by decide))
        have M4 := hide (KF.cells M3.out (by decide))
        have T4 := hide (KF.cells T3.out (by decide))
        have BB4 := hide (setRow_below BB3.out HAB.out X3.out.size (#[.int .i64 (k : Int), .int .i64 (j : Int)] : Array Value))
        clear KF
        generalize v3.setRow ab (#[.int .i64 (k : Int), .int .i64 (j : Int)] : Array Value) = v4 at *
        refine hK.out _ _ (⟨M4.out, T4.out⟩) (fun hHeld => ?_)
        clear hK K hOld
        try simp only [Act.put, List.setIfInBounds_toArray, List.set_cons_zero, List.set_cons_succ]
        refine wpAnyH_take (i := 10) (oi := { dst := some 6, op := Op.assign (Operand.tmp 27), type := 40, pos := "law.go:49", after := #[{ on := 7, ground := Ground.data }, { on := 9, ground := Ground.chain }, { on := 0, ground := Ground.phase }, { on := 1, ground := Ground.phase }, { on := 2, ground := Ground.phase }, { on := 3, ground := Ground.phase }, { on := 4, ground := Ground.phase }, { on := 5, ground := Ground.phase }, { on := 6, ground := Ground.phase }, { on := 7, ground := Ground.phase }, { on := 8, ground := Ground.phase }, { on := 9, ground := Ground.phase }], guard := none }) (v := ?_) rfl (by kernel_rfl) (by kernel_rfl) (by kernel_rfl) (fun _ _ _ h => h) (Or.inl ⟨by kernel_rfl, ?_⟩) hHeld ?_
        rotate_left
        · (intro w hSw; (try dsimp only at hSw); have m0 := cell_of_block hSw.1 0; have m1 := cell_of_block hSw.1 1; have m2 := cell_of_block hSw.1 2; have m3 := cell_of_block hSw.1 3; have e0 := cell_of_block hSw.2 0; have e1 := cell_of_block hSw.2 1; have e2 := cell_of_block hSw.2 2; have e3 := cell_of_block hSw.2 3; have e4 := cell_of_block hSw.2 4; go_simp); try with_reducible rfl
        try simp only [Act.put, List.setIfInBounds_toArray, List.set_cons_zero, List.set_cons_succ]
        refine wpAnyH_done (by kernel_rfl) ?_ _
        clear hHeld
        go_wp2_with fail
        go_meet
        exact ⟨ab, k, j, Y, rfl, rfl, HP.out, X4.out, A4.out, M4.out, T4.out, BB4.out⟩
    · have hOld := hide hHeld
      clear hHeld
      go_simp
      have hal := (Below.refl v0.heap.size v0).alloc (Nat.le_refl _) (.cells #[.int .i64 0, .int .i64 0] 53)
      have A1 := hide (heap_new v0 (.cells #[.int .i64 0, .int .i64 0] 53))
      have X1 := hide (X0.out.below hal)
      have M1 := hide ((hal.block _ (heap_lt M0.out)).trans M0.out)
      have T1 := hide ((hal.block _ (heap_lt T0.out)).trans T0.out)
      have BB1 := hide (BB0.out.trans (hal.mono X0.out.size))
      have HAB := hide (show B0 ≤ v0.heap.size from X0.out.size)
      clear hal
      generalize v0.alloc (.cells #[.int .i64 0, .int .i64 0] 53) = v1 at *
      generalize v0.heap.size = ab at *
      (try go_wp2_with fail)
      refine hK.out _ _ (⟨M1.out, T1.out⟩) (fun hHeld => ?_)
      clear hK K hOld
      try simp only [Act.put, List.setIfInBounds_toArray, List.set_cons_zero, List.set_cons_succ]
      refine wpAnyH_ready (rs := [3]) (by kernel_rfl) (by simp) (AllReadyH.cons (o := { dst := some 24, op := Op.call { callee := Callee.value (Operand.func 9), args := #[Operand.const (Value.string { data := #[97] }), Operand.const (Value.int IntKind.i64 32)], argTypes := #[9, 3] }, type := 9, pos := "law.go:49", after := #[], guard := none }) rfl (fun K hK => ?_) AllReadyH.nil)
      have hOld := hide hHeld
      clear hHeld
      go_simp
      refine (HFU.out _).mono ?_
      rintro e v2 ⟨rfl, hb⟩
      have X2 := hide (X1.out.below hb)
      have M2 := hide ((hb.block _ (heap_lt M1.out)).trans M1.out)
      have T2 := hide ((hb.block _ (heap_lt T1.out)).trans T1.out)
      have A2 := hide ((hb.block _ (heap_lt A1.out)).trans A1.out)
      have BB2 := hide (BB1.out.trans (hb.mono X1.out.size))
      clear hb
      (try go_wp2_with fail)
      refine hK.out _ _ (⟨M2.out, T2.out⟩) (fun hHeld => ?_)
      clear hK K hOld
      try simp only [Act.put, List.setIfInBounds_toArray, List.set_cons_zero, List.set_cons_succ]
      refine wpAnyH_ready (rs := [4]) (by kernel_rfl) (by simp) (AllReadyH.cons (o := { dst := some 25, op := Op.call { callee := Callee.value (Operand.func 16), args := #[Operand.tmp 22, Operand.tmp 23, Operand.tmp 24], argTypes := #[26, 51, 9] }, type := 54, pos := "law.go:49", after := #[{ on := 1, ground := Ground.data }, { on := 2, ground := Ground.data }, { on := 3, ground := Ground.data }, { on := 3, ground := Ground.chain }], guard := none }) rfl (fun K hK => ?_) AllReadyH.nil)
      have hOld := hide hHeld
      clear hHeld
      go_simp
      refine (HPU.out _ X2.out).mono ?_
      rintro e v3 ⟨Y, k, j, rfl, hp, hs, hb⟩
      have HP := hide hp
      have X3 := hide hs
      have M3 := hide (hb.2.cells M2.out (by decide))
      have T3 := hide (hb.2.cells T2.out (by decide))
      have A3 := hide (hb.2.cells A2.out (by decide))
      have BB3 := hide (BB2.out.trans hb.1)
      clear hp hs hb
      (try go_wp2_with fail)
      refine hK.out _ _ (⟨M3.out, T3.out⟩) (fun hHeld => ?_)
      clear hK K hOld
      try simp only [Act.put, List.setIfInBounds_toArray, List.set_cons_zero, List.set_cons_succ]
      refine wpAnyH_take (i := 5) (oi := { dst := some 20, op := Op.move (Operand.tmp 25), type := 54, pos := "law.go:49", after := #[{ on := 4, ground := Ground.data }], guard := none }) (v := ?_) rfl (by kernel_rfl) (by kernel_rfl) (by kernel_rfl) (fun _ _ _ h => h) (Or.inl ⟨by kernel_rfl, ?_⟩) hHeld ?_
      rotate_left
      · (intro w hSw; (try dsimp only at hSw); have m0 := cell_of_block hSw.1 0; have m1 := cell_of_block hSw.1 1; have m2 := cell_of_block hSw.1 2; have m3 := cell_of_block hSw.1 3; have e0 := cell_of_block hSw.2 0; have e1 := cell_of_block hSw.2 1; have e2 := cell_of_block hSw.2 2; have e3 := cell_of_block hSw.2 3; have e4 := cell_of_block hSw.2 4; go_simp); try with_reducible rfl
      try simp only [Act.put, List.setIfInBounds_toArray, List.set_cons_zero, List.set_cons_succ]
      refine wpAnyH_take (i := 6) (oi := { dst := some 26, op := Op.extract (Operand.tmp 20) 0, type := 53, pos := "law.go:49", after := #[{ on := 5, ground := Ground.data }], guard := none }) (v := ?_) rfl (by kernel_rfl) (by kernel_rfl) (by kernel_rfl) (fun _ _ _ h => h) (Or.inl ⟨by kernel_rfl, ?_⟩) hHeld ?_
      rotate_left
      · (intro w hSw; (try dsimp only at hSw); have m0 := cell_of_block hSw.1 0; have m1 := cell_of_block hSw.1 1; have m2 := cell_of_block hSw.1 2; have m3 := cell_of_block hSw.1 3; have e0 := cell_of_block hSw.2 0; have e1 := cell_of_block hSw.2 1; have e2 := cell_of_block hSw.2 2; have e3 := cell_of_block hSw.2 3; have e4 := cell_of_block hSw.2 4; go_simp); try with_reducible rfl
      try simp only [Act.put, List.setIfInBounds_toArray, List.set_cons_zero, List.set_cons_succ]
      refine wpAnyH_take (i := 7) (oi := { dst := some 27, op := Op.extract (Operand.tmp 20) 1, type := 40, pos := "law.go:49", after := #[{ on := 5, ground := Ground.data }, { on := 9, ground := Ground.gcOnly Departure.lateStores }], guard := none }) (v := ?_) rfl (by kernel_rfl) (by kernel_rfl) (by kernel_rfl) (fun _ _ _ h => h) (Or.inl ⟨by kernel_rfl, ?_⟩) hHeld ?_
      rotate_left
      · (intro w hSw; (try dsimp only at hSw); have m0 := cell_of_block hSw.1 0; have m1 := cell_of_block hSw.1 1; have m2 := cell_of_block hSw.1 2; have m3 := cell_of_block hSw.1 3; have e0 := cell_of_block hSw.2 0; have e1 := cell_of_block hSw.2 1; have e2 := cell_of_block hSw.2 2; have e3 := cell_of_block hSw.2 3; have e4 := cell_of_block hSw.2 4; go_simp); try with_reducible rfl
      try simp only [Act.put, List.setIfInBounds_toArray, List.set_cons_zero, List.set_cons_succ]
      refine wpAnyH_ready (rs := [9]) (by kernel_rfl) (by simp) (AllReadyH.cons (o := { dst := none, op := Op.store 53 (Operand.tmp 5) (Operand.tmp 26), type := 0, pos := "law.go:49", after := #[{ on := 8, ground := Ground.data }, { on := 6, ground := Ground.data }, { on := 4, ground := Ground.chain }, { on := 0, ground := Ground.phase }, { on := 1, ground := Ground.phase }, { on := 2, ground := Ground.phase }, { on := 3, ground := Ground.phase }, { on := 4, ground := Ground.phase }, { on := 5, ground := Ground.phase }, { on := 6, ground := Ground.phase }, { on := 7, ground := Ground.textOnly Departure.lateStores }, { on := 8, ground := Ground.phase }], guard := none }) rfl (fun K hK => ?_) AllReadyH.nil)
      have hOld := hide hHeld
      clear hHeld
      refine rw_storeO 53 (.tmp 5) (.tmp 26) rfl ab rfl #[.int .i64 (k : Int), .int .i64 (j : Int)] rfl _ A3.out (by kernel_rfl) rfl (by simp [Value.oneCell']) ?_
      have KF := setRow_keeps (Ts := [53]) A3.out (by decide) (#[.int .i64 (k : Int), .int .i64 (j : Int)] : Array Value)
      have A4 := hide (setRow_same (cs := (#[.int .i64 (k : Int), .int .i64 (j : Int)] : Array Value)) A3.out)
      have X4 := hide (X3.out.keepsT KF (by decide) (by decide) (by decide) (by decide) (by decide) (by decide) (by decide) (by decide) (by decide) (by decide) (by decide))
      have M4 := hide (KF.cells M3.out (by decide))
      have T4 := hide (KF.cells T3.out (by decide))
      have BB4 := hide (setRow_below BB3.out HAB.out X3.out.size (#[.int .i64 (k : Int), .int .i64 (j : Int)] : Array Value))
      clear KF
      generalize v3.setRow ab (#[.int .i64 (k : Int), .int .i64 (j : Int)] : Array Value) = v4 at *
      refine hK.out _ _ (⟨M4.out, T4.out⟩) (fun hHeld => ?_)
      clear hK K hOld
      try simp only [Act.put, List.setIfInBounds_toArray, List.set_cons_zero, List.set_cons_succ]
      refine wpAnyH_take (i := 10) (oi := { dst := some 6, op := Op.assign (Operand.tmp 27), type := 40, pos := "law.go:49", after := #[{ on := 7, ground := Ground.data }, { on := 9, ground := Ground.chain }, { on := 0, ground := Ground.phase }, { on := 1, ground := Ground.phase }, { on := 2, ground := Ground.phase }, { on := 3, ground := Ground.phase }, { on := 4, ground := Ground.phase }, { on := 5, ground := Ground.phase }, { on := 6, ground := Ground.phase }, { on := 7, ground := Ground.phase }, { on := 8, ground := Ground.phase }, { on := 9, ground := Ground.phase }], guard := none }) (v := ?_) rfl (by kernel_rfl) (by kernel_rfl) (by kernel_rfl) (fun _ _ _ h => h) (Or.inl ⟨by kernel_rfl, ?_⟩) hHeld ?_
      rotate_left
      · (intro w hSw; (try dsimp only at hSw); have m0 := cell_of_block hSw.1 0; have m1 := cell_of_block hSw.1 1; have m2 := cell_of_block hSw.1 2; have m3 := cell_of_block hSw.1 3; have e0 := cell_of_block hSw.2 0; have e1 := cell_of_block hSw.2 1; have e2 := cell_of_block hSw.2 2; have e3 := cell_of_block hSw.2 3; have e4 := cell_of_block hSw.2 4; go_simp); try with_reducible rfl
      try simp only [Act.put, List.setIfInBounds_toArray, List.set_cons_zero, List.set_cons_succ]
      refine wpAnyH_done (by kernel_rfl) ?_ _
      clear hHeld
      go_wp2_with fail
      go_meet
      exact ⟨ab, k, j, Y, rfl, rfl, HP.out, X4.out, A4.out, M4.out, T4.out, BB4.out⟩
  case rest =>
  obtain ⟨ab, k, j, Y, rfl, rfl, hp, hy, ha, hm, ht, hb⟩ := hcut
  have X4 := hide hy
  have A4 := hide ha
  have M4 := hide hm
  have T4 := hide ht
  have B4 := hide hb
  have P4 := hide hp
  clear hy ha hm ht hb hp X0 M0 T0 BB0 HPU HFU
  have HOKY := hide (P4.out.mapped 2 (by rw [HC0.out.2]; decide))
  have HWP := hide (fun W (hW : MvAt W B0 A 8 4 Y) => wput16 (X := Y) (by decide) (by decide) 2 k j ⟨1, 2, 9, 0, 1⟩ td (by rw [P4.out.same.1, HC0.out.2]; decide) P4.out.kj.1 P4.out.kj.2.2 (fun i hi => absurd (by rw [← P4.out.same.1]; exact hi) (P4.out.fresh i)) W hW)
  rw [show ((2 : Nat) : Int) = 2 from rfl] at HWP
  have hcapY := P4.out.cap HOK0.out
  rw [HC0.out.1] at hcapY
  have hM2 : (mapX Y 2 k j ⟨1, 2, 9, 0, 1⟩ td).M.getD 2 none = some ((k : Int), (j : Int)) := by
    show (Y.M.set 2 _).getD 2 none = _
    have : 2 < Y.M.length := by rw [P4.out.same.1, HC0.out.2]; decide
    simp [List.getD, this]
  have hMl : (mapX Y 2 k j ⟨1, 2, 9, 0, 1⟩ td).M.length = 6 := by
    show (Y.M.set 2 _).length = 6
    rw [List.length_set, P4.out.same.1, HC0.out.2]
  have hcapZ : capX 4 (mapX Y 2 k j ⟨1, 2, 9, 0, 1⟩ td) = 23 := by
    show capX 4 Y = 23
    omega
  have hD2 : (mapX Y 2 k j ⟨1, 2, 9, 0, 1⟩ td).D 2 = (⟨1, 2, 9, 0, 1⟩, td) := by
    show (if (2 : Nat) = 2 then ((⟨1, 2, 9, 0, 1⟩ : TgM), td) else Y.D 2) = _
    exact if_pos rfl
  have hU2 : ((mapX Y 2 k j ⟨1, 2, 9, 0, 1⟩ td).L.getD k (0, 0)).1 = 2 := P4.out.used
  have hk := P4.out.kj.1
  clear hcapY
  generalize mapX Y 2 k j ⟨1, 2, 9, 0, 1⟩ td = Z at *
  have HCL := hide (fun W (hW : MvAt W B0 A 8 4 Z) => clear16 HOKY.out (by decide) (by decide) (by decide) (by decide) (by decide) k hk (by
    have h1 := cap_shut HOKY.out (by decide) k
    have h2 := live_le Z.M (k : Int)
    have h3 := total_le Z.M
    omega) W hW)
  unfold Clear16 at HCL
  have hsame := shut_same (X := Z) k
  have HFREE := hide (fun (V : MvS) (hok : HOk 8 4 32 (0 + 3 + 3 * ((4 : Nat) : Int)) V) (hc : Clr 4 k 4 (shutX Z k) V) W (hW : MvAt W B0 A 8 4 V) => free16_ok hok k hk (clr_all hc hok).1 hc.opn (hc.used k (by rw [hsame.2.2.2.1]; exact hU2)) W hW)
  have HAT := hide (show ∀ (V : MvS), HOk 8 4 32 (0 + 3 + 3 * ((4 : Nat) : Int)) V → Clr 4 k 4 (shutX Z k) V → ∃ k2 j2 : Nat, V.M.getD 2 none = some ((k2 : Int), (j2 : Int)) ∧ k2 ≠ k ∧ (∀ W, MvAt W B0 A 8 4 V → Calls Tryz.prog 19 #[.pointer (some ⟨A.mp, 0, none⟩), .int .i64 2] W fun e w' => e = .returned (.tuple #[.agg #[.int .i64 (k2 : Int), .int .i64 (j2 : Int)], .bool true]) ∧ Below W.heap.size W w') ∧ ∀ W, MvAt W B0 A 8 4 (freeX V k) → Calls Tryz.prog 20 #[.pointer (some ⟨A.d, 0, none⟩), .int .i64 (k2 : Int), .int .i64 (j2 : Int)] W fun e w' => e = .returned (.tuple #[.agg #[.int .i64 4, .int .u8 1, .int .i64 2, .int .u64 9, .int .i64 0, .int .i64 1, .string (bs td)], .int .i64 0]) ∧ Below W.heap.size W w' from by
    intro V hok hc
    have h1 := hc.kept 2
    rw [hsame.1, hM2] at h1
    obtain ⟨x, hx⟩ := Option.isSome_iff_exists.mp h1
    obtain ⟨k2, j2, rfl, h2, h3, h4, h5, h6, h7⟩ := has_read hok hx
    have hDV : V.D 2 = (⟨1, 2, 9, 0, 1⟩, td) := by rw [hc.D, hsame.2.2.2.2.1]; exact hD2
    rw [hDV] at h4 h5 h7
    refine ⟨k2, j2, hx, ?_, ?_, ?_⟩
    · have := (clr_all hc hok).2 2 _ hx
      exact fun e => this (by show (k2 : Int) = (k : Int); omega)
    · intro W hW
      have hlen : 2 < V.M.length := by rw [hc.len, hsame.1, hMl]; decide
      exact at_some hW.mp 2 hlen (k2 : Int) (j2 : Int) hx
    · intro W hW
      exact dread_tag (k2 : Int) (j2 : Int) 1 2 9 0 1 h4.1 h4.2.1 h4.2.2 td (by rw [h5]; decide) h6 h7 W hW.st.drive)
  have HSTT := hide (fun (V : MvS) (hok : HOk 8 4 32 (0 + 3 + 3 * ((4 : Nat) : Int)) V) W (hW : MvAt W B0 A 8 4 (freeX V k)) => state_any A.pp A.pq _ (k : Int) W hW.st.pool)
  have HST1 := hide (show ∀ (V : MvS), HOk 8 4 32 (0 + 3 + 3 * ((4 : Nat) : Int)) V → fstZ (freeX V k).L (k : Int) = 1 from by
    intro V hok
    unfold fstZ
    show (if 0 ≤ (k : Int) ∧ (k : Int) < ((V.L.set k (1, (V.L.getD k (0, 0)).2)).length : Int) then ((V.L.set k (1, (V.L.getD k (0, 0)).2)).getD (k : Int).toNat (0, 0)).1 else 0) = 1
    rw [if_pos (by rw [List.length_set, hok.llen]; omega), Int.toNat_natCast, pr_self _ k (by rw [hok.llen]; exact hk)])
  have HSIN := hide (fun (V : MvS) W (hW : MvAt W B0 A 8 4 (freeX V k)) => sins_any A.p A.q A.B A.G V.S W hW.st.drive.chip)
  clear hM2 hMl hcapZ hD2 hU2 hk hsame HC0 HOK0 HLEN HOKY
  obtain ⟨kz, hkz⟩ : ∃ z : Int, (k : Int) = z := ⟨_, rfl⟩
  obtain ⟨jz, hjz⟩ : ∃ z : Int, (j : Int) = z := ⟨_, rfl⟩
  have HKZ := hide hkz
  rw [hkz] at HCL HFREE HSTT HST1 HWP
  rw [hkz] at A4
  rw [hjz] at HWP A4
  clear hkz hjz
  have a3 := cell_of_block M4.out 3
  go_wp2_with (refine rw_load rfl 53 (.tmp 5) rfl ab rfl 53 #[.int .i64 kz, .int .i64 jz] (0, 0) _ A4.out Tryz.underlying53 rfl (by kernel_rfl) ?_)
  refine (HWP.out _ X4.out).mono ?_
  rintro e w5 ⟨rfl, hm, hb⟩
  have M5 := hide (hb.keep M4.out (by decide))
  have T5 := hide (hb.keep T4.out (by decide))
  have A5 := hide (hb.keep A4.out (by decide))
  have X5 := hide hm
  have B5 := hide (B4.out.trans hb.1)
  clear hb hm X4 B4 M4 T4 A4 a3 HWP
  have b0 := cell_of_block A5.out 0
  go_wp2_with (refine rw_load rfl 29 (.tmp 2) rfl mb rfl 29 #[.pointer (some ⟨A.d, 0, none⟩), .pointer (some ⟨A.pp, 0, none⟩), .pointer (some ⟨A.sb, 0, none⟩), .pointer (some ⟨A.mp, 0, none⟩)] (0, 0) _ M5.out Tryz.underlying29 rfl (by kernel_rfl) ?_)
  refine (HCL.out _ X5.out).mono ?_
  rintro e w6 ⟨V, rfl, hv, hc, hm, hb⟩
  have M6 := hide (hb.keep M5.out (by decide))
  have T6 := hide (hb.keep T5.out (by decide))
  have A6 := hide (hb.keep A5.out (by decide))
  have X6 := hide hm
  have B6 := hide (B5.out.trans hb.1)
  have HV := hide (And.intro hv hc)
  have HSI0 := hide (show V.S.sins = 0 from hv.heal.sins)
  clear hv hc
  clear hb hm X5 B5 M5 T5 A5 b0 HCL
  have m3 := cell_of_block M6.out 3
  obtain ⟨k2, j2, hx2, hne2, hat2, hrd2⟩ := HAT.out V HV.out.1 HV.out.2
  have HAT2 := hide hat2
  have HRD2 := hide hrd2
  have HNE2 := hide hne2
  clear hx2 hat2 hrd2 hne2 HAT
  obtain ⟨k2z, hk2⟩ : ∃ z : Int, (k2 : Int) = z := ⟨_, rfl⟩
  obtain ⟨j2z, hj2⟩ : ∃ z : Int, (j2 : Int) = z := ⟨_, rfl⟩
  have hne3 : (k2z != kz) = true := bne_iff_ne.mpr (by rw [← hk2, ← HKZ.out]; have := HNE2.out; omega)
  rw [hk2, hj2] at HAT2 HRD2
  clear hk2 hj2 HNE2
  go_wp2_with fail
  refine (HAT2.out _ X6.out).mono ?_
  rintro e w7 ⟨rfl, hb⟩
  have M7 := hide ((hb.block _ (heap_lt M6.out)).trans M6.out)
  have T7 := hide ((hb.block _ (heap_lt T6.out)).trans T6.out)
  have A7 := hide ((hb.block _ (heap_lt A6.out)).trans A6.out)
  have X7 := hide (X6.out.below hb)
  have B7 := hide (B6.out.trans (hb.mono X6.out.size))
  clear hb X6 B6 M6 T6 A6 m3 HAT2
  go_upto_region 7 with (refine rw_store rfl 53 (.tmp 9) (.tmp 40) rfl w7.heap.size rfl #[.int .i64 k2z, .int .i64 j2z] rfl _ (heap_new w7 _) (by kernel_rfl) rfl (by simp [Value.oneCell']) ?_)
  have XB := hide (heap_new w7 (.cells #[.int .i64 0, .int .i64 0] 53))
  have hal := (Below.refl w7.heap.size w7).alloc (Nat.le_refl _) (.cells #[.int .i64 0, .int .i64 0] 53)
  have hbb := setRow_below (hal.trans (Below.refl _ _)) (Nat.le_refl _) hal.size (#[.int .i64 k2z, .int .i64 j2z] : Array Value)
  have C8 := hide (setRow_same (cs := (#[.int .i64 k2z, .int .i64 j2z] : Array Value)) XB.out)
  have M8 := hide ((hbb.block _ (heap_lt M7.out)).trans M7.out)
  have T8 := hide ((hbb.block _ (heap_lt T7.out)).trans T7.out)
  have A8 := hide ((hbb.block _ (heap_lt A7.out)).trans A7.out)
  have X8 := hide (X7.out.below hbb)
  have B8 := hide (B7.out.trans (hbb.mono X7.out.size))
  clear hal hbb XB X7 B7 M7 T7 A7
  generalize (w7.alloc (.cells #[.int .i64 0, .int .i64 0] 53)).setRow w7.heap.size (#[.int .i64 k2z, .int .i64 j2z] : Array Value) = w8 at *
  generalize w7.heap.size = cb at *
  (try rw [show ∀ (a : Act) (v : Value), a.put none v = a from fun _ _ => rfl])
  have b0 := cell_of_block A8.out 0
  go_wp2_with (refine rw_load rfl 29 (.tmp 2) rfl mb rfl 29 #[.pointer (some ⟨A.d, 0, none⟩), .pointer (some ⟨A.pp, 0, none⟩), .pointer (some ⟨A.sb, 0, none⟩), .pointer (some ⟨A.mp, 0, none⟩)] (0, 0) _ M8.out Tryz.underlying29 rfl (by kernel_rfl) ?_)
  refine (HFREE.out V HV.out.1 HV.out.2 _ X8.out).mono ?_
  rintro e w9 ⟨rfl, hm, hb⟩
  have M9 := hide (hb.keep M8.out (by decide))
  have T9 := hide (hb.keep T8.out (by decide))
  have A9 := hide (hb.keep A8.out (by decide))
  have C9 := hide (hb.keep C8.out (by decide))
  have X9 := hide hm
  have B9 := hide (B8.out.trans hb.1)
  clear hb hm X8 B8 M8 T8 A8 C8 b0 HFREE
  have m0 := cell_of_block M9.out 0
  have c0 := cell_of_block C9.out 0
  have c1 := cell_of_block C9.out 1
  go_wp2_with fail
  refine (HRD2.out _ X9.out).mono ?_
  rintro e w10 ⟨rfl, hb⟩
  have M10 := hide ((hb.block _ (heap_lt M9.out)).trans M9.out)
  have T10 := hide ((hb.block _ (heap_lt T9.out)).trans T9.out)
  have A10 := hide ((hb.block _ (heap_lt A9.out)).trans A9.out)
  have C10 := hide ((hb.block _ (heap_lt C9.out)).trans C9.out)
  have X10 := hide (X9.out.below hb)
  have B10 := hide (B9.out.trans (hb.mono X9.out.size))
  clear hb X9 B9 M9 T9 A9 C9 m0 c0 c1 HRD2
  go_upto_region 9 with (refine rw_store rfl 62 (.tmp 12) (.tmp 54) rfl w10.heap.size rfl #[.int .i64 4, .int .u8 1, .int .i64 2, .int .u64 9, .int .i64 0, .int .i64 1, .string (bs td)] rfl _ (heap_new w10 _) (by kernel_rfl) rfl (by simp [Value.oneCell']) ?_)
  have XB := hide (heap_new w10 (.cells #[.int .i64 0, .int .u8 0, .int .i64 0, .int .u64 0, .int .i64 0, .int .i64 0, .string ⟨#[]⟩] 62))
  have hal := (Below.refl w10.heap.size w10).alloc (Nat.le_refl _) (.cells #[.int .i64 0, .int .u8 0, .int .i64 0, .int .u64 0, .int .i64 0, .int .i64 0, .string ⟨#[]⟩] 62)
  have hbb := setRow_below (hal.trans (Below.refl _ _)) (Nat.le_refl _) hal.size (#[.int .i64 4, .int .u8 1, .int .i64 2, .int .u64 9, .int .i64 0, .int .i64 1, .string (bs td)] : Array Value)
  have P11 := hide (setRow_same (cs := (#[.int .i64 4, .int .u8 1, .int .i64 2, .int .u64 9, .int .i64 0, .int .i64 1, .string (bs td)] : Array Value)) XB.out)
  have M11 := hide ((hbb.block _ (heap_lt M10.out)).trans M10.out)
  have T11 := hide ((hbb.block _ (heap_lt T10.out)).trans T10.out)
  have A11 := hide ((hbb.block _ (heap_lt A10.out)).trans A10.out)
  have C11 := hide ((hbb.block _ (heap_lt C10.out)).trans C10.out)
  have X11 := hide (X10.out.below hbb)
  have B11 := hide (B10.out.trans (hbb.mono X10.out.size))
  clear hal hbb XB X10 B10 M10 T10 A10 C10
  generalize (w10.alloc (.cells #[.int .i64 0, .int .u8 0, .int .i64 0, .int .u64 0, .int .i64 0, .int .i64 0, .string ⟨#[]⟩] 62)).setRow w10.heap.size (#[.int .i64 4, .int .u8 1, .int .i64 2, .int .u64 9, .int .i64 0, .int .i64 1, .string (bs td)] : Array Value) = w11 at *
  generalize w10.heap.size = pb at *
  (try rw [show ∀ (a : Act) (v : Value), a.put none v = a from fun _ _ => rfl])
  have b0 := cell_of_block A11.out 0
  have c0 := cell_of_block C11.out 0
  have m1 := cell_of_block M11.out 1
  have e0 := cell_of_block T11.out 0
  have e1 := cell_of_block T11.out 1
  have e2 := cell_of_block T11.out 2
  have e3 := cell_of_block T11.out 3
  have e4 := cell_of_block T11.out 4
  have p0 := cell_of_block P11.out 0
  have p1 := cell_of_block P11.out 1
  have p2 := cell_of_block P11.out 2
  have p3 := cell_of_block P11.out 3
  have p4 := cell_of_block P11.out 4
  have p5 := cell_of_block P11.out 5
  have q3 := eql_tag16
  have q4 := guard_tag16
  go_wp2_with fail
  refine (HSTT.out V HV.out.1 _ X11.out).mono ?_
  rintro e w12 ⟨rfl, rfl⟩
  rw [HST1.out V HV.out.1]
  go_wp2_with fail
  refine (HSIN.out V _ X11.out).mono ?_
  rintro e w12 ⟨rfl, rfl⟩
  rw [HSI0.out]
  go_wp2_with fail
  go_ret
  exact ⟨rfl, B11.out⟩
end Go.Proofs.YtmcaegbggblfpaaGreat
