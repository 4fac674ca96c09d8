/-
  Layer 4: CurReads.
-/
import Derived.Test.YtmhppjgclaahnaaCur10
import Derived.Test.YtmhppjgclaahnaaKitG
namespace Go.Proofs.Ytmhppjgclaahnaa
set_option linter.unusedSimpArgs false
set_option linter.unusedVariables false
open Go.RowKit Go.WideShapes Go.ChangeShapes Go.ChangeAt

theorem rdAll_ext : ∀ (m : List Fld) (z : (List Fld × List Int) × ByteArray × Bool), ∃ e1 e2, (m.foldl rdStep z).1.1 = z.1.1 ++ e1 ∧ (m.foldl rdStep z).1.2 = z.1.2 ++ e2
  | [], z => ⟨[], [], by simp, by simp⟩
  | x :: m, z => by
    obtain ⟨e1, e2, h1, h2⟩ := rdAll_ext m (rdStep z x)
    rw [List.foldl_cons, h1, h2]
    exact ⟨(rdF z.2.1 z.2.2 x).1 :: e1, ((stS (rdF z.2.1 z.2.2 x).2.1 (rdF z.2.1 z.2.2 x).2.2).size : Int) :: e2, by simp [rdStep], by simp [rdStep]⟩
theorem getD_mid {α : Type} (a b : List α) (x d : α) (k : Nat) (h : a.length = k) : (a ++ [x] ++ b).getD k d = x := by
  subst h
  simp [List.getD]
theorem rdAll_at (m : List Fld) (s : ByteArray) (k : Nat) (hk : k < m.length) :
    (rdAll m s).1.1.getD k fld0 = (rdF (rdAll (m.take k) s).2.1 (rdAll (m.take k) s).2.2 (m.getD k fld0)).1 ∧
    (rdAll m s).1.2.getD k 0 = ((stS (rdF (rdAll (m.take k) s).2.1 (rdAll (m.take k) s).2.2 (m.getD k fld0)).2.1 (rdF (rdAll (m.take k) s).2.1 (rdAll (m.take k) s).2.2 (m.getD k fld0)).2.2).size : Int) := by
  have e : rdAll m s = (m.drop (k + 1)).foldl rdStep (rdAll (m.take (k + 1)) s) := by
    unfold rdAll
    rw [← List.foldl_append, List.take_append_drop]
  obtain ⟨e1, e2, h1, h2⟩ := rdAll_ext (m.drop (k + 1)) (rdAll (m.take (k + 1)) s)
  rw [← e] at h1 h2
  rw [rdAll_next m s k hk] at h1 h2
  have hl := rdAll_len s (m.take k)
  rw [List.length_take, Nat.min_eq_left (Nat.le_of_lt hk)] at hl
  rw [h1, h2]
  simp only [rdStep]
  exact ⟨getD_mid _ _ _ _ _ hl.1, getD_mid _ _ _ _ _ hl.2.1⟩
theorem stS_ite (s : ByteArray) (b : Bool) : ((stS s b).size : Int) = if b = true then 0 else (s.size : Int) := by
  cases b <;> rfl
theorem lefts_flat (l : List Int) : lefts l = l.flatMap fun x => [.int .i64 x] := by
  induction l with
  | nil => rfl
  | cons x l ih => rw [List.flatMap_cons, ← ih]; rfl
theorem fieldsFT : fdesc (Try.prog.fieldsOf 49).toList = [("Kind", 3, 0), ("Width", 3, 1), ("N", 28, 2), ("S", 9, 3)] := by kernel_rfl
theorem eq_fld (k wd n k' wd' n' : Int) (t t' : ByteArray) (w : World) : (Op.equalIn 10000 49 (.agg #[.int .i64 k, .int .i64 wd, .int .u64 n, .string t]) (.agg #[.int .i64 k', .int .i64 wd', .int .u64 n', .string t'])).run Try.prog w =
    .ok (k == k' && (wd == wd' && (n == n' && (t.toList == t'.toList && true)))) w := by
  rw [run_equalIn_agg w 9999 49 _ _ (by kernel_rfl) (by kernel_rfl)]
  exact eqF_cons w _ _ _ fieldsFT (by decide) (by kernel_rfl) (by kernel_rfl) (run_equalIn_int w 9998 3 .i64 .i64 _ _ Try.underlying3) fun l h =>
    eqF_cons w _ _ _ h (by decide) (by kernel_rfl) (by kernel_rfl) (run_equalIn_int w 9998 3 .i64 .i64 _ _ Try.underlying3) fun l h =>
    eqF_cons w _ _ _ h (by decide) (by kernel_rfl) (by kernel_rfl) (run_equalIn_int w 9998 28 .u64 .u64 _ _ Try.underlying28) fun l h =>
    eqF_cons w _ _ _ h (by decide) (by kernel_rfl) (by kernel_rfl) (run_equalIn_string w 9998 9 _ _ Try.underlying9) fun l h => eqF_nil w _ _ _ h
theorem neq_fld (k wd n : Int) (t : ByteArray) (w : World) : (binOp .neq 49 (.agg #[.int .i64 k, .int .i64 wd, .int .u64 n, .string t]) (.agg #[.int .i64 k, .int .i64 wd, .int .u64 n, .string t])).run Try.prog w = .ok (.bool false) w := by
  rw [run_neq_struct, eq_fld]
  simp
theorem guard_fld (x y : Operand) (a b : Array Value) (w : World) : (eqGuard .neq 49 x y (.agg a) (.agg b)).run Try.prog w = .ok () w := run_eqGuard_agg w .neq 49 x y a b (by kernel_rfl)
set_option maxRecDepth 100000 in
set_option maxHeartbeats 4000000 in
theorem curReads_bb (s : ByteArray) (hs64 : s.size ≤ 9223372036854775807) (h4 : 400 < s.size) (v : Value) (w : World) (L : List Fld) (a : Option Addr) (cap : Nat) (hv : v = .slice a L.length cap ∧ L.length ≤ cap ∧ cap ≤ 9223372036854775807 ∧ (∀ x ∈ L, FldOk x) ∧
    ∀ i, i < L.length → ∃ b off, a = some ⟨b, off, none⟩ ∧ b < w.heap.size ∧ w.cell? ⟨b, off + (i * 4), none⟩ = some (.int .i64 (L.getD i fld0).k) ∧ w.cell? ⟨b, off + (i * 4 + 1), none⟩ = some (.int .i64 (L.getD i fld0).w) ∧ w.cell? ⟨b, off + (i * 4 + 2), none⟩ = some (.int .u64 (L.getD i fld0).n) ∧ w.cell? ⟨b, off + (i * 4 + 3), none⟩ = some (.string (L.getD i fld0).s)) (hbig : 30 < L.length) :
    Calls Try.prog 8 #[.string s, v] w fun e w' => e = .returned (.bool true) ∧ Below w.heap.size w w' := by
  obtain ⟨rfl, hc, hcm, hok, hat⟩ := hv
  have HOK := hide hok
  have HAT := hide hat
  clear hok hat
  go_enter Try.func8, Try.ntmps8
  go_wp2_with fail
  obtain ⟨S, hS, hS4⟩ : ∃ S : ByteArray, S = s.extract 0 400 ∧ S.size ≤ 400 := ⟨_, rfl, by rw [ByteArray.size_extract]; omega⟩
  rw [← hS]
  clear hS
  obtain ⟨i0, hi, hz0, hz1, hz2⟩ := info_parts (show (Try.prog.info? 49).map (fun i => (i.zero, i.size, i.bytes)) = some (some (.agg #[.int .i64 0, .int .i64 0, .int .u64 0, .string ⟨#[]⟩]), 4, 40) by kernel_rfl)
  have HI := hide hi
  have HZ0 := hide hz0
  have HZ1 := hide hz1
  have HZ2 := hide hz2
  clear hi hz0 hz1 hz2
  go_loopw [5, 28] (fun v i W => ∃ (k : Nat) (am : Option Addr) (cm : Nat), k ≤ 30 ∧ i = .int .i64 k ∧ v = .slice am k cm ∧ W.ownsRow w.heap.size 49 4 (.slice am k cm) k (((L.take k).map ofF).flatMap fc) ∧ Below w.heap.size w W) (fun _ i _ => 30 - (intOf i).toNat)
  case atStart => exact ⟨0, none, 0, by omega, rfl, rfl, World.ownsRow_nil _ _ _ _, Below.refl _ _⟩
  case round =>
    obtain ⟨k, am, cm, hk, rfl, rfl, hown, hB⟩ := hrel
    have HOWN := hide hown
    have HB := hide hB
    by_cases hlt : k < 30
    · obtain ⟨b, off, rfl, hb, c0, c1, c2, c3⟩ := HAT.out k (by omega)
      have d0 : wr.cell? ⟨b, off + k * 4, none⟩ = some (.int .i64 (L.getD k fld0).k) := by rw [hB.cell (p := ⟨b, off + k * 4, none⟩) hb]; exact c0
      have d1 : wr.cell? ⟨b, off + k * 4 + 1, none⟩ = some (.int .i64 (L.getD k fld0).w) := by rw [hB.cell (p := ⟨b, off + k * 4 + 1, none⟩) hb]; exact c1
      have d2 : wr.cell? ⟨b, off + k * 4 + 2, none⟩ = some (.int .u64 (L.getD k fld0).n) := by rw [hB.cell (p := ⟨b, off + k * 4 + 2, none⟩) hb]; exact c2
      have d3 : wr.cell? ⟨b, off + k * 4 + 3, none⟩ = some (.string (L.getD k fld0).s) := by rw [hB.cell (p := ⟨b, off + k * 4 + 3, none⟩) hb]; exact c3
      have hox := hide (HOK.out _ (getD_mem L k (by omega)))
      have hnx := hide (map_take L k (by omega))
      have hbw : b < wr.heap.size := Nat.lt_of_lt_of_le hb hB.size
      generalize L.getD k fld0 = x at *
      have HOF := hide (fun W => of_any x hox.out W)
      obtain ⟨xk, xw, xn, xs⟩ := x
      generalize hyy : ofF ⟨xk, xw, xn, xs⟩ = y at *
      obtain ⟨yk, yw, yn, ys⟩ := y
      simp only at d0 d1 d2 d3
      simp only [fc] at HOF
      have HA := hide (HB.out.alloc HB.out.size (.cells #[.int .i64 xk, .int .i64 xw, .int .u64 xn, .string xs] 48))
      have HOA := hide (HOWN.out.alloc (.cells #[.int .i64 xk, .int .i64 xw, .int .u64 xn, .string xs] 48))
      generalize ((L.take k).map ofF).flatMap fc = M at *
      clear hB c0 c1 c2 c3 hb hown hyy
      go_wp2_with fail
      refine (HOF.out _).mono ?_
      rintro e w2 ⟨rfl, hb2⟩
      have HA2 := hide (HA.out.trans (hb2.mono HA.out.size))
      have HO2 := hide (owns_below HOA.out hb2)
      have HA3 := hide (HA2.out.alloc HA2.out.size (.cells #[.int .i64 yk, .int .i64 yw, .int .u64 yn, .string ys] 49))
      have HO3 := hide (HO2.out.alloc (.cells #[.int .i64 yk, .int .i64 yw, .int .u64 yn, .string ys] 49))
      have HNEW := hide (new_row w2 ⟨yk, yw, yn, ys⟩)
      have HONE := hide (show ∀ u ∈ [Value.int .i64 yk, .int .i64 yw, .int .u64 yn, .string ys], u.oneCell' = true by intro u hu; simp at hu; rcases hu with rfl | rfl | rfl | rfl <;> rfl)
      have HGE := hide (fun j (h : (Value.slice am k cm).ownBlock = some j) => (HO3.out.lt j h).1)
      clear hb2 hbw d0 d1 d2 d3
      go_wp2_with (at_builtin; refine wpList_append_own _ rfl _ _ 46 rfl w.heap.size 49 i0 (.agg #[.int .i64 0, .int .i64 0, .int .u64 0, .string ⟨#[]⟩]) 4 40 Try.underlying46 HI.out HZ0.out HZ1.out HZ2.out rfl (by decide) (.slice am k cm) k M rfl HO3.out ⟨w2.heap.size, 0, none⟩ 1 1 [.int .i64 yk, .int .i64 yw, .int .u64 yn, .string ys] rfl rfl HNEW.out HONE.out (by unfold maxLen; omega) (by omega) HA3.out.size ?_; intro v' w' ho hgr hnil; obtain ⟨a2, c2, rfl⟩ := owns_slice_n ho; clear hnil; have HN := hide ho; have HBN := hide (HA3.out.grown hgr HA3.out.size HGE.out); clear ho hgr)
      go_roundw
      case rel => exact ⟨k + 1, a2, c2, by omega, by go_num, rfl, by rw [hnx.out]; exact HN.out, HBN.out⟩
      case measure => simp [intOf]; omega
    · obtain rfl : k = 30 := by omega
      clear hB hown
      obtain ⟨m, hm, hml⟩ : ∃ m : List Fld, m = (L.take 30).map ofF ∧ m.length = 30 := ⟨_, rfl, by simp <;> omega⟩
      have hgood : ∀ x ∈ m, FldGood x := by
        intro x hx
        rw [hm] at hx
        obtain ⟨x', hx', rfl⟩ := List.mem_map.1 hx
        exact ofF_good (HOK.out x' (List.mem_of_mem_take hx'))
      have hfl := hide (show FldsAt wr wr.heap.size am m from flds_of_owns (cap := cm) (by have := HOWN.out; rw [← hm] at this; rw [hml]; exact this))
      have HREF := hide (refRead_any m (by omega) hgood am cm S (by omega) wr hfl.out)
      have HGOOD : Hid (∀ x ∈ m, 0 ≤ x.k ∧ x.k ≤ 2) := hide (fun x hx => (hgood x hx).1)
      have HRL := hide (rdAll_len S m)
      rw [hml] at HREF HRL
      clear hm hgood HOWN
      go_wp2_with fail
      refine HREF.out.mono ?_
      rintro e w3 ⟨a1, k1, a2, k2, rfl, ho1, ho2, hb3⟩
      have HB3 := hide (below_trans HB.out hb3)
      have HF3 := hide (show FldsAt w3 w3.heap.size am m from hfl.out.size hb3 hb3.size)
      rw [lefts_flat] at ho2
      rw [← HRL.out.1] at ho1
      rw [← HRL.out.2.1] at ho2
      have HO3 := hide ho1
      have HL3 := hide ho2
      clear hb3 HREF ho1 ho2
      go_wp2_with fail
      refine (read_any S _).mono ?_
      rintro e w7 ⟨rfl, hrd, hb7⟩
      have HB7 := hide (below_trans HB3.out hb7)
      have HF7 := hide (show FldsAt w7 w3.heap.size am m from HF3.out.below hb7)
      have HO7 := hide (owns_below HO3.out hb7)
      have HL7 := hide (owns_below HL3.out hb7)
      have HRD := hide hrd
      have hp7 := hide (show w3.heap.size < w7.heap.size from heap_lt hrd.row)
      have HBW := hide (show w.heap.size ≤ w3.heap.size from HB3.out.size)
      have HT1 := hide (owns_top HO3.out)
      have HT2 := hide (owns_top HL3.out)
      generalize w3.heap.size = p at *
      clear hrd hb7 HO3 HL3
      go_wp2_with fail
      go_loopw [51, 12] (fun i en W => ∃ k : Nat, k ≤ 30 ∧ i = .int .i64 k ∧ en = .int .i64 ((stS (rdAll (m.take k) S).2.1 (rdAll (m.take k) S).2.2).size : Int) ∧ RdAt W p (rdAll (m.take k) S).2.1 (rdAll (m.take k) S).2.2 ∧ Below p w7 W) (fun i _ _ => 30 - (intOf i).toNat)
      case atStart => exact ⟨0, by omega, rfl, rfl, HRD.out, Below.refl _ _⟩
      case round =>
        obtain ⟨k, hk9, rfl, rfl, hrd, hB⟩ := hrel
        have HBK := hide hB
        by_cases hlt9 : k < 30
        · obtain ⟨g, rfl, hg, c0, c1, c2, c3⟩ := (HF7.out.below hB).at k (by omega)
          have hxk := HGOOD.out _ (getD_mem m k (by omega))
          obtain ⟨hrl1, hrl2, -⟩ := HRL.out
          obtain ⟨hat1, hat2⟩ := rdAll_at m S k (by omega)
          obtain ⟨g1, rfl, hg1, hg1s, e1⟩ := owns_rows fc fc_length fld0 HO7.out k (by omega)
          obtain ⟨g2, rfl, hg2, hg2s, e2⟩ := owns_rows (fun x : Int => [.int .i64 x]) (fun _ => rfl) 0 HL7.out k (by omega)
          rw [hat1] at e1
          rw [hat2] at e2
          have hnx := hide (rdAll_next m S k (by omega))
          have hsz := (rdAll_len S (m.take k)).2.2
          have HRF := hide (fun W hW => read_fld p (rdAll (m.take k) S).2.1 (by omega) (rdAll (m.take k) S).2.2 (m.getD k fld0) hxk W hW)
          have hz7 := hB.size
          generalize rdAll (m.take k) S = z at *
          generalize m.getD k fld0 = x at *
          simp only [rdStep] at hnx
          generalize rdF z.2.1 z.2.2 x = r at *
          obtain ⟨y, s', bad'⟩ := r
          obtain ⟨lv, hlv⟩ : ∃ lv : Int, ((stS s' bad').size : Int) = lv := ⟨_, rfl⟩
          have HLV := hide hlv
          simp only at *
          rw [hlv] at e2
          obtain ⟨xk, xw, xn, xs⟩ := x
          obtain ⟨yk, yw, yn, ys⟩ := y
          have y0 := e1 0 (by omega)
          have y1 := e1 1 (by omega)
          have y2 := e1 2 (by omega)
          have y3 := e1 3 (by omega)
          have l0 := e2 0 (by omega)
          simp only [fc, Nat.mul_one, Nat.add_zero, List.getElem?_cons_zero, List.getElem?_cons_succ] at y0 y1 y2 y3 l0 c0 c1 c2 c3
          have hgp : g1 < p := HT1.out _ rfl
          have hgp2 : g2 < p := HT2.out _ rfl
          have hpw := heap_lt hrd.row
          have HR9 := hide (show RdAt (wr.alloc (.cells #[.int .i64 xk, .int .i64 xw, .int .u64 xn, .string xs] 49)).drew p z.2.1 z.2.2 from ⟨(hrd.more (.cells #[.int .i64 xk, .int .i64 xw, .int .u64 xn, .string xs] 49)).row⟩)
          have hne := heap_new wr (.cells #[.int .i64 xk, .int .i64 xw, .int .u64 xn, .string xs] 49)
          obtain ⟨u0, u1, u2, u3, -⟩ := block4 hne
          have HSTART : Hid ((fun W => W.cell? ⟨wr.heap.size, 0, none⟩ = some (.int .i64 xk) ∧ W.cell? ⟨wr.heap.size, 1, none⟩ = some (.int .i64 xw) ∧ W.cell? ⟨wr.heap.size, 2, none⟩ = some (.int .u64 xn) ∧ W.cell? ⟨wr.heap.size, 3, none⟩ = some (.string xs) ∧ W.cell? ⟨g1, k * 4, none⟩ = some (.int .i64 yk) ∧ W.cell? ⟨g1, k * 4 + 1, none⟩ = some (.int .i64 yw) ∧ W.cell? ⟨g1, k * 4 + 2, none⟩ = some (.int .u64 yn) ∧ W.cell? ⟨g1, k * 4 + 3, none⟩ = some (.string ys) ∧ W.cell? ⟨g2, k, none⟩ = some (.int .i64 lv) ∧ wr.heap.size < W.heap.size ∧ g1 < W.heap.size ∧ g2 < W.heap.size ∧ Below p wr W) (wr.alloc (.cells #[.int .i64 xk, .int .i64 xw, .int .u64 xn, .string xs] 49)).drew) := hide ⟨u0, u1, u2, u3, (cell_keep' (hB.trans ((Below.refl p wr).alloc (Nat.le_of_lt hpw) _)) hgp).trans y0, (cell_keep' (hB.trans ((Below.refl p wr).alloc (Nat.le_of_lt hpw) _)) hgp).trans y1, (cell_keep' (hB.trans ((Below.refl p wr).alloc (Nat.le_of_lt hpw) _)) hgp).trans y2, (cell_keep' (hB.trans ((Below.refl p wr).alloc (Nat.le_of_lt hpw) _)) hgp).trans y3, (cell_keep' (hB.trans ((Below.refl p wr).alloc (Nat.le_of_lt hpw) _)) hgp2).trans l0, by show _ < (wr.alloc _).heap.size; simp, by show _ < (wr.alloc _).heap.size; simp; omega, by show _ < (wr.alloc _).heap.size; simp; omega, ((Below.refl p wr).alloc (Nat.le_of_lt hpw) _).drew⟩
          have hgw : g < wr.heap.size := by omega
          have hneq := fun W => neq_fld yk yw yn ys W
          have hgd := fun x y a b W => guard_fld x y a b W
          simp only [fc] at HRF
          clear hrl1 hrl2 hrd hB hne hg hat1 hat2 e1 e2 hlv y0 y1 y2 y3 l0 u0 u1 u2 u3 hg1 hg2 hg1s hg2s
          go_wp2_with fail
          refine wp_region_held_drew (S := (fun W => W.cell? ⟨wr.heap.size, 0, none⟩ = some (.int .i64 xk) ∧ W.cell? ⟨wr.heap.size, 1, none⟩ = some (.int .i64 xw) ∧ W.cell? ⟨wr.heap.size, 2, none⟩ = some (.int .u64 xn) ∧ W.cell? ⟨wr.heap.size, 3, none⟩ = some (.string xs) ∧ W.cell? ⟨g1, k * 4, none⟩ = some (.int .i64 yk) ∧ W.cell? ⟨g1, k * 4 + 1, none⟩ = some (.int .i64 yw) ∧ W.cell? ⟨g1, k * 4 + 2, none⟩ = some (.int .u64 yn) ∧ W.cell? ⟨g1, k * 4 + 3, none⟩ = some (.string ys) ∧ W.cell? ⟨g2, k, none⟩ = some (.int .i64 lv) ∧ wr.heap.size < W.heap.size ∧ g1 < W.heap.size ∧ g2 < W.heap.size ∧ Below p wr W)) (by kernel_rfl) (HSTART.out) (fun hHeld => ?_)
          refine wpAnyH_take (i := 0) (oi := { dst := some 56, op := Op.move (Operand.tmp 11), type := 54, pos := "law.go:56", after := #[], guard := none }) (v := ?_) rfl (by kernel_rfl) (by kernel_rfl) (by kernel_rfl) (fun _ _ _ h => h) (Or.inl ⟨by kernel_rfl, ?_⟩) hHeld ?_
          rotate_left
          · (intro w hSw; (try dsimp only at hSw); go_simp); try with_reducible rfl
          try simp only [Act.put, List.setIfInBounds_toArray, List.set_cons_zero, List.set_cons_succ]
          refine wpAnyH_take (i := 1) (oi := { dst := some 57, op := Op.load 49 (Operand.tmp 14), type := 49, pos := "law.go:56", after := #[], guard := none }) (v := ?_) rfl (by kernel_rfl) (by kernel_rfl) (by kernel_rfl) (fun _ _ _ h => h) (Or.inl ⟨by kernel_rfl, ?_⟩) hHeld ?_
          rotate_left
          · (intro w hSw; (try dsimp only at hSw); go_simp); try with_reducible rfl
          try simp only [Act.put, List.setIfInBounds_toArray, List.set_cons_zero, List.set_cons_succ]
          refine wpAnyH_take (i := 3) (oi := { dst := some 59, op := Op.move (Operand.tmp 8), type := 46, pos := "law.go:56", after := #[], guard := none }) (v := ?_) rfl (by kernel_rfl) (by kernel_rfl) (by kernel_rfl) (fun _ _ _ h => h) (Or.inl ⟨by kernel_rfl, ?_⟩) hHeld ?_
          rotate_left
          · (intro w hSw; (try dsimp only at hSw); go_simp); try with_reducible rfl
          try simp only [Act.put, List.setIfInBounds_toArray, List.set_cons_zero, List.set_cons_succ]
          refine wpAnyH_take (i := 4) (oi := { dst := some 60, op := Op.move (Operand.tmp 13), type := 3, pos := "law.go:56", after := #[], guard := none }) (v := ?_) rfl (by kernel_rfl) (by kernel_rfl) (by kernel_rfl) (fun _ _ _ h => h) (Or.inl ⟨by kernel_rfl, ?_⟩) hHeld ?_
          rotate_left
          · (intro w hSw; (try dsimp only at hSw); go_simp); try with_reducible rfl
          try simp only [Act.put, List.setIfInBounds_toArray, List.set_cons_zero, List.set_cons_succ]
          refine wpAnyH_take (i := 5) (oi := { dst := some 61, op := Op.indexAddr 46 (Operand.tmp 59) (Operand.tmp 60), type := 0, pos := "law.go:56", after := #[{ on := 3, ground := Ground.data }, { on := 4, ground := Ground.data }], guard := none }) (v := ?_) rfl (by kernel_rfl) (by kernel_rfl) (by kernel_rfl) (fun _ _ _ h => h) (Or.inl ⟨by kernel_rfl, ?_⟩) hHeld ?_
          rotate_left
          · (intro w hSw; (try dsimp only at hSw); go_simp); try with_reducible rfl
          try simp only [Act.put, List.setIfInBounds_toArray, List.set_cons_zero, List.set_cons_succ]
          refine wpAnyH_take (i := 6) (oi := { dst := some 62, op := Op.load 49 (Operand.tmp 61), type := 49, pos := "law.go:56", after := #[{ on := 5, ground := Ground.data }], guard := none }) (v := ?_) rfl (by kernel_rfl) (by kernel_rfl) (by kernel_rfl) (fun _ _ _ h => h) (Or.inl ⟨by kernel_rfl, ?_⟩) hHeld ?_
          rotate_left
          · (intro w hSw; (try dsimp only at hSw); go_simp); try with_reducible rfl
          try simp only [Act.put, List.setIfInBounds_toArray, List.set_cons_zero, List.set_cons_succ]
          refine wpAnyH_ready (rs := [2]) (by kernel_rfl) (by simp) ?_
          refine AllReadyH.cons (o := { dst := some 58, op := Op.call { callee := Callee.value (Operand.func 25), args := #[Operand.tmp 56, Operand.tmp 57], argTypes := #[54, 49] }, type := 49, pos := "law.go:56", after := #[{ on := 0, ground := Ground.data }, { on := 1, ground := Ground.data }], guard := none }) rfl (fun K hK => ?_) AllReadyH.nil
          have hOld := hide hHeld
          clear hHeld
          go_simp
          refine (HRF.out _ HR9.out).mono ?_
          rintro e w9 ⟨rfl, hr9, ho9⟩
          have HR10 := hide hr9
          have HLL := hide (left_any p _ _ w9 hr9)
          rw [← stS_ite] at HLL
          rw [HLV.out] at HLL
          have hS9 := hOld.out
          obtain ⟨u0, u1, u2, u3, y0, y1, y2, y3, l0, z0, z1, z2, zB⟩ := hS9
          have HS9 := hide (show (fun W => W.cell? ⟨wr.heap.size, 0, none⟩ = some (.int .i64 xk) ∧ W.cell? ⟨wr.heap.size, 1, none⟩ = some (.int .i64 xw) ∧ W.cell? ⟨wr.heap.size, 2, none⟩ = some (.int .u64 xn) ∧ W.cell? ⟨wr.heap.size, 3, none⟩ = some (.string xs) ∧ W.cell? ⟨g1, k * 4, none⟩ = some (.int .i64 yk) ∧ W.cell? ⟨g1, k * 4 + 1, none⟩ = some (.int .i64 yw) ∧ W.cell? ⟨g1, k * 4 + 2, none⟩ = some (.int .u64 yn) ∧ W.cell? ⟨g1, k * 4 + 3, none⟩ = some (.string ys) ∧ W.cell? ⟨g2, k, none⟩ = some (.int .i64 lv) ∧ wr.heap.size < W.heap.size ∧ g1 < W.heap.size ∧ g2 < W.heap.size ∧ Below p wr W) w9 from ⟨(only_cell ho9 z0 (by omega)).trans u0, (only_cell ho9 z0 (by omega)).trans u1, (only_cell ho9 z0 (by omega)).trans u2, (only_cell ho9 z0 (by omega)).trans u3, (only_cell ho9 z1 (by omega)).trans y0, (only_cell ho9 z1 (by omega)).trans y1, (only_cell ho9 z1 (by omega)).trans y2, (only_cell ho9 z1 (by omega)).trans y3, (only_cell ho9 z2 (by omega)).trans l0, Nat.lt_of_lt_of_le z0 ho9.size, Nat.lt_of_lt_of_le z1 ho9.size, Nat.lt_of_lt_of_le z2 ho9.size, zB.trans (ho9.from (by omega))⟩)
          clear hr9 ho9 u0 u1 u2 u3 y0 y1 y2 y3 l0 z0 z1 z2 zB
          (try go_wp2_with fail)
          refine hK.out _ _ (HS9.out) (fun hHeld => ?_)
          clear hK K hOld
          try simp only [Act.put, List.setIfInBounds_toArray, List.set_cons_zero, List.set_cons_succ]
          refine wpAnyH_take (i := 7) (oi := { dst := some 63, op := Op.binOp BinOp.neq 49 (Operand.tmp 58) (Operand.tmp 62) 49, type := 4, pos := "law.go:56", after := #[{ on := 2, ground := Ground.data }, { on := 6, ground := Ground.data }], guard := none }) (v := ?_) rfl (by kernel_rfl) (by kernel_rfl) (by kernel_rfl) (fun _ _ _ h => h) (Or.inl ⟨by kernel_rfl, ?_⟩) hHeld ?_
          rotate_left
          · (intro w hSw; (try dsimp only at hSw); go_simp); try with_reducible rfl
          try simp only [Act.put, List.setIfInBounds_toArray, List.set_cons_zero, List.set_cons_succ]
          refine wpAnyH_take (i := 8) (oi := { dst := some 64, op := Op.move (Operand.tmp 63), type := 4, pos := "law.go:56", after := #[{ on := 7, ground := Ground.data }, { on := 2, ground := Ground.chain }], guard := none }) (v := ?_) rfl (by kernel_rfl) (by kernel_rfl) (by kernel_rfl) (fun _ _ _ h => h) (Or.inl ⟨by kernel_rfl, ?_⟩) hHeld ?_
          rotate_left
          · (intro w hSw; (try dsimp only at hSw); go_simp); try with_reducible rfl
          try simp only [Act.put, List.setIfInBounds_toArray, List.set_cons_zero, List.set_cons_succ]
          refine wpAnyH_take (i := 9) (oi := { dst := some 65, op := Op.move (Operand.tmp 11), type := 54, pos := "law.go:56", after := #[{ on := 8, ground := Ground.guard }], guard := some (8, false) }) (v := ?_) rfl (by kernel_rfl) (by kernel_rfl) (by kernel_rfl) (fun _ _ _ h => h) (Or.inl ⟨by kernel_rfl, ?_⟩) hHeld ?_
          rotate_left
          · (intro w hSw; (try dsimp only at hSw); go_simp); try with_reducible rfl
          try simp only [Act.put, List.setIfInBounds_toArray, List.set_cons_zero, List.set_cons_succ]
          refine wpAnyH_take (i := 11) (oi := { dst := some 67, op := Op.move (Operand.tmp 9), type := 51, pos := "law.go:56", after := #[{ on := 8, ground := Ground.guard }], guard := some (8, false) }) (v := ?_) rfl (by kernel_rfl) (by kernel_rfl) (by kernel_rfl) (fun _ _ _ h => h) (Or.inl ⟨by kernel_rfl, ?_⟩) hHeld ?_
          rotate_left
          · (intro w hSw; (try dsimp only at hSw); go_simp); try with_reducible rfl
          try simp only [Act.put, List.setIfInBounds_toArray, List.set_cons_zero, List.set_cons_succ]
          refine wpAnyH_take (i := 12) (oi := { dst := some 68, op := Op.move (Operand.tmp 13), type := 3, pos := "law.go:56", after := #[{ on := 8, ground := Ground.guard }], guard := some (8, false) }) (v := ?_) rfl (by kernel_rfl) (by kernel_rfl) (by kernel_rfl) (fun _ _ _ h => h) (Or.inl ⟨by kernel_rfl, ?_⟩) hHeld ?_
          rotate_left
          · (intro w hSw; (try dsimp only at hSw); go_simp); try with_reducible rfl
          try simp only [Act.put, List.setIfInBounds_toArray, List.set_cons_zero, List.set_cons_succ]
          refine wpAnyH_take (i := 13) (oi := { dst := some 69, op := Op.indexAddr 51 (Operand.tmp 67) (Operand.tmp 68), type := 0, pos := "law.go:56", after := #[{ on := 11, ground := Ground.data }, { on := 12, ground := Ground.data }, { on := 8, ground := Ground.guard }], guard := some (8, false) }) (v := ?_) rfl (by kernel_rfl) (by kernel_rfl) (by kernel_rfl) (fun _ _ _ h => h) (Or.inl ⟨by kernel_rfl, ?_⟩) hHeld ?_
          rotate_left
          · (intro w hSw; (try dsimp only at hSw); go_simp); try with_reducible rfl
          try simp only [Act.put, List.setIfInBounds_toArray, List.set_cons_zero, List.set_cons_succ]
          refine wpAnyH_take (i := 14) (oi := { dst := some 70, op := Op.load 3 (Operand.tmp 69), type := 3, pos := "law.go:56", after := #[{ on := 13, ground := Ground.data }, { on := 8, ground := Ground.guard }], guard := some (8, false) }) (v := ?_) rfl (by kernel_rfl) (by kernel_rfl) (by kernel_rfl) (fun _ _ _ h => h) (Or.inl ⟨by kernel_rfl, ?_⟩) hHeld ?_
          rotate_left
          · (intro w hSw; (try dsimp only at hSw); go_simp); try with_reducible rfl
          try simp only [Act.put, List.setIfInBounds_toArray, List.set_cons_zero, List.set_cons_succ]
          refine wpAnyH_ready (rs := [10]) (by kernel_rfl) (by simp) ?_
          refine AllReadyH.cons (o := { dst := some 66, op := Op.call { callee := Callee.value (Operand.func 26), args := #[Operand.tmp 65], argTypes := #[54] }, type := 3, pos := "law.go:56", after := #[{ on := 9, ground := Ground.data }, { on := 8, ground := Ground.chain }, { on := 8, ground := Ground.guard }], guard := some (8, false) }) rfl (fun K hK => ?_) AllReadyH.nil
          have hOld := hide hHeld
          clear hHeld
          go_simp
          refine HLL.out.mono ?_
          rintro e w11 ⟨rfl, rfl⟩
          (try go_wp2_with fail)
          refine hK.out _ _ (HS9.out) (fun hHeld => ?_)
          clear hK K hOld
          try simp only [Act.put, List.setIfInBounds_toArray, List.set_cons_zero, List.set_cons_succ]
          refine wpAnyH_take (i := 15) (oi := { dst := some 71, op := Op.binOp BinOp.neq 3 (Operand.tmp 66) (Operand.tmp 70) 3, type := 4, pos := "law.go:56", after := #[{ on := 10, ground := Ground.data }, { on := 14, ground := Ground.data }, { on := 8, ground := Ground.guard }], guard := some (8, false) }) (v := ?_) rfl (by kernel_rfl) (by kernel_rfl) (by kernel_rfl) (fun _ _ _ h => h) (Or.inl ⟨by kernel_rfl, ?_⟩) hHeld ?_
          rotate_left
          · (intro w hSw; (try dsimp only at hSw); go_simp); try with_reducible rfl
          try simp only [Act.put, List.setIfInBounds_toArray, List.set_cons_zero, List.set_cons_succ]
          refine wpAnyH_take (i := 16) (oi := { dst := some 72, op := Op.pick (Operand.tmp 64) (Operand.const (Value.bool true)) (Operand.tmp 71), type := 4, pos := "law.go:56", after := #[{ on := 8, ground := Ground.data }, { on := 15, ground := Ground.data }], guard := none }) (v := ?_) rfl (by kernel_rfl) (by kernel_rfl) (by kernel_rfl) (fun _ _ _ h => h) (Or.inl ⟨by kernel_rfl, ?_⟩) hHeld ?_
          rotate_left
          · (intro w hSw; (try dsimp only at hSw); go_simp); try with_reducible rfl
          try simp only [Act.put, List.setIfInBounds_toArray, List.set_cons_zero, List.set_cons_succ]
          refine wpAnyH_done (by kernel_rfl) ?_ _
          obtain ⟨u0, u1, u2, u3, y0, y1, y2, y3, l0, z0, z1, z2, zB⟩ := HS9.out
          clear HR9 HSTART HRF HLL
          go_wp2_with fail
          go_roundw
          case rel => exact ⟨k + 1, by omega, by go_num, by rw [hnx.out]; simp only; rw [HLV.out], by rw [hnx.out]; exact HR10.out, HBK.out.trans zB⟩
          case measure => simp [intOf]; omega
        · obtain rfl : k = 30 := by omega
          rw [show m.take 30 = m by rw [← hml, List.take_length]] at hrd ⊢
          generalize (rdAll m S).2 = z at *
          obtain ⟨s', bad⟩ := z
          simp only at *
          have hle := end_any p s' bad wr hrd
          have hwr := wrong_any p s' bad wr hrd
          rw [stS_ite]
          have HBE := hide (HB7.out.trans (hB.mono HBW.out))
          clear hB HBK HF7 HO7 HL7
          cases bad
          · rw [if_neg (by simp)]
            by_cases h0 : s'.size = 0
            · rw [show endE s' false = 0 by unfold endE; rw [if_neg (by simp [h0])]] at hle
              rw [h0]
              have HRD9 := hide hrd
              clear hle hwr hrd
              go_wp2_with fail
              refine (wakes4 _).mono ?_
              rintro e w8 ⟨rfl, hb8⟩
              have HBE8 := hide (below_trans HBE.out hb8)
              have HEN := hide (end_any p _ _ _ (HRD9.out.below hb8))
              have HWR := hide (wrong_any p _ _ _ (HRD9.out.below hb8))
              rw [show endE s' false = 0 by unfold endE; rw [if_neg (by simp [h0])]] at HEN
              clear hb8
              go_wp2_with fail
              refine HEN.out.mono ?_
              rintro e w9 ⟨rfl, rfl⟩
              go_wp2_with fail
              refine HWR.out.mono ?_
              rintro e w10 ⟨rfl, rfl⟩
              go_wp2_with fail
              refine (wrong_nil _).mono ?_
              rintro e w11 ⟨rfl, rfl⟩
              go_wp2_with fail
              refine (number_nil _ _).mono ?_
              rintro e w12 ⟨rfl, hb12⟩
              have HB12 := hide (below_trans HBE8.out hb12)
              clear hb12
              go_wp2_with fail
              refine (signed_nil _).mono ?_
              rintro e w13 ⟨rfl, hb13⟩
              have HB13 := hide (below_trans HB12.out hb13)
              clear hb13
              go_wp2_with fail
              refine (text_nil _).mono ?_
              rintro e w14 ⟨rfl, rfl⟩
              go_wp2_with fail
              refine (left_nil _).mono ?_
              rintro e w15 ⟨rfl, rfl⟩
              go_wp2_with fail
              refine (end_nil _).mono ?_
              rintro e w16 ⟨rfl, rfl⟩
              go_wp2
              go_ret
              exact ⟨rfl, HB13.out⟩
            · rw [show endE s' false = 4 by unfold endE; rw [if_pos (.inr h0)]] at hle
              have hpos : (0 : Int) < (s'.size : Int) := by omega
              have HRD9 := hide hrd
              clear hle hwr hrd
              go_wp2_with fail
              refine (wakes4 _).mono ?_
              rintro e w8 ⟨rfl, hb8⟩
              have HBE8 := hide (below_trans HBE.out hb8)
              have HEN := hide (end_any p _ _ _ (HRD9.out.below hb8))
              have HWR := hide (wrong_any p _ _ _ (HRD9.out.below hb8))
              rw [show endE s' false = 4 by unfold endE; rw [if_pos (.inr h0)]] at HEN
              clear hb8
              go_wp2_with fail
              refine HEN.out.mono ?_
              rintro e w9 ⟨rfl, rfl⟩
              go_wp2_with fail
              refine HWR.out.mono ?_
              rintro e w10 ⟨rfl, rfl⟩
              go_wp2_with fail
              refine (wrong_nil _).mono ?_
              rintro e w11 ⟨rfl, rfl⟩
              go_wp2_with fail
              refine (number_nil _ _).mono ?_
              rintro e w12 ⟨rfl, hb12⟩
              have HB12 := hide (below_trans HBE8.out hb12)
              clear hb12
              go_wp2_with fail
              refine (signed_nil _).mono ?_
              rintro e w13 ⟨rfl, hb13⟩
              have HB13 := hide (below_trans HB12.out hb13)
              clear hb13
              go_wp2_with fail
              refine (text_nil _).mono ?_
              rintro e w14 ⟨rfl, rfl⟩
              go_wp2_with fail
              refine (left_nil _).mono ?_
              rintro e w15 ⟨rfl, rfl⟩
              go_wp2_with fail
              refine (end_nil _).mono ?_
              rintro e w16 ⟨rfl, rfl⟩
              go_wp2
              go_ret
              exact ⟨rfl, HB13.out⟩
          · rw [show endE s' true = 4 by unfold endE; rw [if_pos (.inl rfl)]] at hle
            rw [if_pos rfl]
            have HRD9 := hide hrd
            clear hle hwr hrd
            go_wp2_with fail
            refine (wakes4 _).mono ?_
            rintro e w8 ⟨rfl, hb8⟩
            have HBE8 := hide (below_trans HBE.out hb8)
            have HEN := hide (end_any p _ _ _ (HRD9.out.below hb8))
            have HWR := hide (wrong_any p _ _ _ (HRD9.out.below hb8))
            rw [show endE s' true = 4 by unfold endE; rw [if_pos (.inl rfl)]] at HEN
            clear hb8
            go_wp2_with fail
            refine HEN.out.mono ?_
            rintro e w9 ⟨rfl, rfl⟩
            go_wp2_with fail
            refine HWR.out.mono ?_
            rintro e w10 ⟨rfl, rfl⟩
            go_wp2_with fail
            refine (wrong_nil _).mono ?_
            rintro e w11 ⟨rfl, rfl⟩
            go_wp2_with fail
            refine (number_nil _ _).mono ?_
            rintro e w12 ⟨rfl, hb12⟩
            have HB12 := hide (below_trans HBE8.out hb12)
            clear hb12
            go_wp2_with fail
            refine (signed_nil _).mono ?_
            rintro e w13 ⟨rfl, hb13⟩
            have HB13 := hide (below_trans HB12.out hb13)
            clear hb13
            go_wp2_with fail
            refine (text_nil _).mono ?_
            rintro e w14 ⟨rfl, rfl⟩
            go_wp2_with fail
            refine (left_nil _).mono ?_
            rintro e w15 ⟨rfl, rfl⟩
            go_wp2_with fail
            refine (end_nil _).mono ?_
            rintro e w16 ⟨rfl, rfl⟩
            go_wp2
            go_ret
            exact ⟨rfl, HB13.out⟩
set_option maxRecDepth 100000 in
set_option maxHeartbeats 4000000 in
theorem curReads_bs (s : ByteArray) (hs64 : s.size ≤ 9223372036854775807) (h4 : s.size ≤ 400) (v : Value) (w : World) (L : List Fld) (a : Option Addr) (cap : Nat) (hv : v = .slice a L.length cap ∧ L.length ≤ cap ∧ cap ≤ 9223372036854775807 ∧ (∀ x ∈ L, FldOk x) ∧
    ∀ i, i < L.length → ∃ b off, a = some ⟨b, off, none⟩ ∧ b < w.heap.size ∧ w.cell? ⟨b, off + (i * 4), none⟩ = some (.int .i64 (L.getD i fld0).k) ∧ w.cell? ⟨b, off + (i * 4 + 1), none⟩ = some (.int .i64 (L.getD i fld0).w) ∧ w.cell? ⟨b, off + (i * 4 + 2), none⟩ = some (.int .u64 (L.getD i fld0).n) ∧ w.cell? ⟨b, off + (i * 4 + 3), none⟩ = some (.string (L.getD i fld0).s)) (hbig : 30 < L.length) :
    Calls Try.prog 8 #[.string s, v] w fun e w' => e = .returned (.bool true) ∧ Below w.heap.size w w' := by
  obtain ⟨rfl, hc, hcm, hok, hat⟩ := hv
  have HOK := hide hok
  have HAT := hide hat
  clear hok hat
  go_enter Try.func8, Try.ntmps8
  go_wp2_with fail
  obtain ⟨S, hS, hS4⟩ : ∃ S : ByteArray, S = s ∧ S.size ≤ 400 := ⟨_, rfl, by omega⟩
  subst hS
  skip
  obtain ⟨i0, hi, hz0, hz1, hz2⟩ := info_parts (show (Try.prog.info? 49).map (fun i => (i.zero, i.size, i.bytes)) = some (some (.agg #[.int .i64 0, .int .i64 0, .int .u64 0, .string ⟨#[]⟩]), 4, 40) by kernel_rfl)
  have HI := hide hi
  have HZ0 := hide hz0
  have HZ1 := hide hz1
  have HZ2 := hide hz2
  clear hi hz0 hz1 hz2
  go_loopw [5, 28] (fun v i W => ∃ (k : Nat) (am : Option Addr) (cm : Nat), k ≤ 30 ∧ i = .int .i64 k ∧ v = .slice am k cm ∧ W.ownsRow w.heap.size 49 4 (.slice am k cm) k (((L.take k).map ofF).flatMap fc) ∧ Below w.heap.size w W) (fun _ i _ => 30 - (intOf i).toNat)
  case atStart => exact ⟨0, none, 0, by omega, rfl, rfl, World.ownsRow_nil _ _ _ _, Below.refl _ _⟩
  case round =>
    obtain ⟨k, am, cm, hk, rfl, rfl, hown, hB⟩ := hrel
    have HOWN := hide hown
    have HB := hide hB
    by_cases hlt : k < 30
    · obtain ⟨b, off, rfl, hb, c0, c1, c2, c3⟩ := HAT.out k (by omega)
      have d0 : wr.cell? ⟨b, off + k * 4, none⟩ = some (.int .i64 (L.getD k fld0).k) := by rw [hB.cell (p := ⟨b, off + k * 4, none⟩) hb]; exact c0
      have d1 : wr.cell? ⟨b, off + k * 4 + 1, none⟩ = some (.int .i64 (L.getD k fld0).w) := by rw [hB.cell (p := ⟨b, off + k * 4 + 1, none⟩) hb]; exact c1
      have d2 : wr.cell? ⟨b, off + k * 4 + 2, none⟩ = some (.int .u64 (L.getD k fld0).n) := by rw [hB.cell (p := ⟨b, off + k * 4 + 2, none⟩) hb]; exact c2
      have d3 : wr.cell? ⟨b, off + k * 4 + 3, none⟩ = some (.string (L.getD k fld0).s) := by rw [hB.cell (p := ⟨b, off + k * 4 + 3, none⟩) hb]; exact c3
      have hox := hide (HOK.out _ (getD_mem L k (by omega)))
      have hnx := hide (map_take L k (by omega))
      have hbw : b < wr.heap.size := Nat.lt_of_lt_of_le hb hB.size
      generalize L.getD k fld0 = x at *
      have HOF := hide (fun W => of_any x hox.out W)
      obtain ⟨xk, xw, xn, xs⟩ := x
      generalize hyy : ofF ⟨xk, xw, xn, xs⟩ = y at *
      obtain ⟨yk, yw, yn, ys⟩ := y
      simp only at d0 d1 d2 d3
      simp only [fc] at HOF
      have HA := hide (HB.out.alloc HB.out.size (.cells #[.int .i64 xk, .int .i64 xw, .int .u64 xn, .string xs] 48))
      have HOA := hide (HOWN.out.alloc (.cells #[.int .i64 xk, .int .i64 xw, .int .u64 xn, .string xs] 48))
      generalize ((L.take k).map ofF).flatMap fc = M at *
      clear hB c0 c1 c2 c3 hb hown hyy
      go_wp2_with fail
      refine (HOF.out _).mono ?_
      rintro e w2 ⟨rfl, hb2⟩
      have HA2 := hide (HA.out.trans (hb2.mono HA.out.size))
      have HO2 := hide (owns_below HOA.out hb2)
      have HA3 := hide (HA2.out.alloc HA2.out.size (.cells #[.int .i64 yk, .int .i64 yw, .int .u64 yn, .string ys] 49))
      have HO3 := hide (HO2.out.alloc (.cells #[.int .i64 yk, .int .i64 yw, .int .u64 yn, .string ys] 49))
      have HNEW := hide (new_row w2 ⟨yk, yw, yn, ys⟩)
      have HONE := hide (show ∀ u ∈ [Value.int .i64 yk, .int .i64 yw, .int .u64 yn, .string ys], u.oneCell' = true by intro u hu; simp at hu; rcases hu with rfl | rfl | rfl | rfl <;> rfl)
      have HGE := hide (fun j (h : (Value.slice am k cm).ownBlock = some j) => (HO3.out.lt j h).1)
      clear hb2 hbw d0 d1 d2 d3
      go_wp2_with (at_builtin; refine wpList_append_own _ rfl _ _ 46 rfl w.heap.size 49 i0 (.agg #[.int .i64 0, .int .i64 0, .int .u64 0, .string ⟨#[]⟩]) 4 40 Try.underlying46 HI.out HZ0.out HZ1.out HZ2.out rfl (by decide) (.slice am k cm) k M rfl HO3.out ⟨w2.heap.size, 0, none⟩ 1 1 [.int .i64 yk, .int .i64 yw, .int .u64 yn, .string ys] rfl rfl HNEW.out HONE.out (by unfold maxLen; omega) (by omega) HA3.out.size ?_; intro v' w' ho hgr hnil; obtain ⟨a2, c2, rfl⟩ := owns_slice_n ho; clear hnil; have HN := hide ho; have HBN := hide (HA3.out.grown hgr HA3.out.size HGE.out); clear ho hgr)
      go_roundw
      case rel => exact ⟨k + 1, a2, c2, by omega, by go_num, rfl, by rw [hnx.out]; exact HN.out, HBN.out⟩
      case measure => simp [intOf]; omega
    · obtain rfl : k = 30 := by omega
      clear hB hown
      obtain ⟨m, hm, hml⟩ : ∃ m : List Fld, m = (L.take 30).map ofF ∧ m.length = 30 := ⟨_, rfl, by simp <;> omega⟩
      have hgood : ∀ x ∈ m, FldGood x := by
        intro x hx
        rw [hm] at hx
        obtain ⟨x', hx', rfl⟩ := List.mem_map.1 hx
        exact ofF_good (HOK.out x' (List.mem_of_mem_take hx'))
      have hfl := hide (show FldsAt wr wr.heap.size am m from flds_of_owns (cap := cm) (by have := HOWN.out; rw [← hm] at this; rw [hml]; exact this))
      have HREF := hide (refRead_any m (by omega) hgood am cm S (by omega) wr hfl.out)
      have HGOOD : Hid (∀ x ∈ m, 0 ≤ x.k ∧ x.k ≤ 2) := hide (fun x hx => (hgood x hx).1)
      have HRL := hide (rdAll_len S m)
      rw [hml] at HREF HRL
      clear hm hgood HOWN
      go_wp2_with fail
      refine HREF.out.mono ?_
      rintro e w3 ⟨a1, k1, a2, k2, rfl, ho1, ho2, hb3⟩
      have HB3 := hide (below_trans HB.out hb3)
      have HF3 := hide (show FldsAt w3 w3.heap.size am m from hfl.out.size hb3 hb3.size)
      rw [lefts_flat] at ho2
      rw [← HRL.out.1] at ho1
      rw [← HRL.out.2.1] at ho2
      have HO3 := hide ho1
      have HL3 := hide ho2
      clear hb3 HREF ho1 ho2
      go_wp2_with fail
      refine (read_any S _).mono ?_
      rintro e w7 ⟨rfl, hrd, hb7⟩
      have HB7 := hide (below_trans HB3.out hb7)
      have HF7 := hide (show FldsAt w7 w3.heap.size am m from HF3.out.below hb7)
      have HO7 := hide (owns_below HO3.out hb7)
      have HL7 := hide (owns_below HL3.out hb7)
      have HRD := hide hrd
      have hp7 := hide (show w3.heap.size < w7.heap.size from heap_lt hrd.row)
      have HBW := hide (show w.heap.size ≤ w3.heap.size from HB3.out.size)
      have HT1 := hide (owns_top HO3.out)
      have HT2 := hide (owns_top HL3.out)
      generalize w3.heap.size = p at *
      clear hrd hb7 HO3 HL3
      go_wp2_with fail
      go_loopw [51, 12] (fun i en W => ∃ k : Nat, k ≤ 30 ∧ i = .int .i64 k ∧ en = .int .i64 ((stS (rdAll (m.take k) S).2.1 (rdAll (m.take k) S).2.2).size : Int) ∧ RdAt W p (rdAll (m.take k) S).2.1 (rdAll (m.take k) S).2.2 ∧ Below p w7 W) (fun i _ _ => 30 - (intOf i).toNat)
      case atStart => exact ⟨0, by omega, rfl, rfl, HRD.out, Below.refl _ _⟩
      case round =>
        obtain ⟨k, hk9, rfl, rfl, hrd, hB⟩ := hrel
        have HBK := hide hB
        by_cases hlt9 : k < 30
        · obtain ⟨g, rfl, hg, c0, c1, c2, c3⟩ := (HF7.out.below hB).at k (by omega)
          have hxk := HGOOD.out _ (getD_mem m k (by omega))
          obtain ⟨hrl1, hrl2, -⟩ := HRL.out
          obtain ⟨hat1, hat2⟩ := rdAll_at m S k (by omega)
          obtain ⟨g1, rfl, hg1, hg1s, e1⟩ := owns_rows fc fc_length fld0 HO7.out k (by omega)
          obtain ⟨g2, rfl, hg2, hg2s, e2⟩ := owns_rows (fun x : Int => [.int .i64 x]) (fun _ => rfl) 0 HL7.out k (by omega)
          rw [hat1] at e1
          rw [hat2] at e2
          have hnx := hide (rdAll_next m S k (by omega))
          have hsz := (rdAll_len S (m.take k)).2.2
          have HRF := hide (fun W hW => read_fld p (rdAll (m.take k) S).2.1 (by omega) (rdAll (m.take k) S).2.2 (m.getD k fld0) hxk W hW)
          have hz7 := hB.size
          generalize rdAll (m.take k) S = z at *
          generalize m.getD k fld0 = x at *
          simp only [rdStep] at hnx
          generalize rdF z.2.1 z.2.2 x = r at *
          obtain ⟨y, s', bad'⟩ := r
          obtain ⟨lv, hlv⟩ : ∃ lv : Int, ((stS s' bad').size : Int) = lv := ⟨_, rfl⟩
          have HLV := hide hlv
          simp only at *
          rw [hlv] at e2
          obtain ⟨xk, xw, xn, xs⟩ := x
          obtain ⟨yk, yw, yn, ys⟩ := y
          have y0 := e1 0 (by omega)
          have y1 := e1 1 (by omega)
          have y2 := e1 2 (by omega)
          have y3 := e1 3 (by omega)
          have l0 := e2 0 (by omega)
          simp only [fc, Nat.mul_one, Nat.add_zero, List.getElem?_cons_zero, List.getElem?_cons_succ] at y0 y1 y2 y3 l0 c0 c1 c2 c3
          have hgp : g1 < p := HT1.out _ rfl
          have hgp2 : g2 < p := HT2.out _ rfl
          have hpw := heap_lt hrd.row
          have HR9 := hide (show RdAt (wr.alloc (.cells #[.int .i64 xk, .int .i64 xw, .int .u64 xn, .string xs] 49)).drew p z.2.1 z.2.2 from ⟨(hrd.more (.cells #[.int .i64 xk, .int .i64 xw, .int .u64 xn, .string xs] 49)).row⟩)
          have hne := heap_new wr (.cells #[.int .i64 xk, .int .i64 xw, .int .u64 xn, .string xs] 49)
          obtain ⟨u0, u1, u2, u3, -⟩ := block4 hne
          have HSTART : Hid ((fun W => W.cell? ⟨wr.heap.size, 0, none⟩ = some (.int .i64 xk) ∧ W.cell? ⟨wr.heap.size, 1, none⟩ = some (.int .i64 xw) ∧ W.cell? ⟨wr.heap.size, 2, none⟩ = some (.int .u64 xn) ∧ W.cell? ⟨wr.heap.size, 3, none⟩ = some (.string xs) ∧ W.cell? ⟨g1, k * 4, none⟩ = some (.int .i64 yk) ∧ W.cell? ⟨g1, k * 4 + 1, none⟩ = some (.int .i64 yw) ∧ W.cell? ⟨g1, k * 4 + 2, none⟩ = some (.int .u64 yn) ∧ W.cell? ⟨g1, k * 4 + 3, none⟩ = some (.string ys) ∧ W.cell? ⟨g2, k, none⟩ = some (.int .i64 lv) ∧ wr.heap.size < W.heap.size ∧ g1 < W.heap.size ∧ g2 < W.heap.size ∧ Below p wr W) (wr.alloc (.cells #[.int .i64 xk, .int .i64 xw, .int .u64 xn, .string xs] 49)).drew) := hide ⟨u0, u1, u2, u3, (cell_keep' (hB.trans ((Below.refl p wr).alloc (Nat.le_of_lt hpw) _)) hgp).trans y0, (cell_keep' (hB.trans ((Below.refl p wr).alloc (Nat.le_of_lt hpw) _)) hgp).trans y1, (cell_keep' (hB.trans ((Below.refl p wr).alloc (Nat.le_of_lt hpw) _)) hgp).trans y2, (cell_keep' (hB.trans ((Below.refl p wr).alloc (Nat.le_of_lt hpw) _)) hgp).trans y3, (cell_keep' (hB.trans ((Below.refl p wr).alloc (Nat.le_of_lt hpw) _)) hgp2).trans l0, by show _ < (wr.alloc _).heap.size; simp, by show _ < (wr.alloc _).heap.size; simp; omega, by show _ < (wr.alloc _).heap.size; simp; omega, ((Below.refl p wr).alloc (Nat.le_of_lt hpw) _).drew⟩
          have hgw : g < wr.heap.size := by omega
          have hneq := fun W => neq_fld yk yw yn ys W
          have hgd := fun x y a b W => guard_fld x y a b W
          simp only [fc] at HRF
          clear hrl1 hrl2 hrd hB hne hg hat1 hat2 e1 e2 hlv y0 y1 y2 y3 l0 u0 u1 u2 u3 hg1 hg2 hg1s hg2s
          go_wp2_with fail
          refine wp_region_held_drew (S := (fun W => W.cell? ⟨wr.heap.size, 0, none⟩ = some (.int .i64 xk) ∧ W.cell? ⟨wr.heap.size, 1, none⟩ = some (.int .i64 xw) ∧ W.cell? ⟨wr.heap.size, 2, none⟩ = some (.int .u64 xn) ∧ W.cell? ⟨wr.heap.size, 3, none⟩ = some (.string xs) ∧ W.cell? ⟨g1, k * 4, none⟩ = some (.int .i64 yk) ∧ W.cell? ⟨g1, k * 4 + 1, none⟩ = some (.int .i64 yw) ∧ W.cell? ⟨g1, k * 4 + 2, none⟩ = some (.int .u64 yn) ∧ W.cell? ⟨g1, k * 4 + 3, none⟩ = some (.string ys) ∧ W.cell? ⟨g2, k, none⟩ = some (.int .i64 lv) ∧ wr.heap.size < W.heap.size ∧ g1 < W.heap.size ∧ g2 < W.heap.size ∧ Below p wr W)) (by kernel_rfl) (HSTART.out) (fun hHeld => ?_)
          refine wpAnyH_take (i := 0) (oi := { dst := some 56, op := Op.move (Operand.tmp 11), type := 54, pos := "law.go:56", after := #[], guard := none }) (v := ?_) rfl (by kernel_rfl) (by kernel_rfl) (by kernel_rfl) (fun _ _ _ h => h) (Or.inl ⟨by kernel_rfl, ?_⟩) hHeld ?_
          rotate_left
          · (intro w hSw; (try dsimp only at hSw); go_simp); try with_reducible rfl
          try simp only [Act.put, List.setIfInBounds_toArray, List.set_cons_zero, List.set_cons_succ]
          refine wpAnyH_take (i := 1) (oi := { dst := some 57, op := Op.load 49 (Operand.tmp 14), type := 49, pos := "law.go:56", after := #[], guard := none }) (v := ?_) rfl (by kernel_rfl) (by kernel_rfl) (by kernel_rfl) (fun _ _ _ h => h) (Or.inl ⟨by kernel_rfl, ?_⟩) hHeld ?_
          rotate_left
          · (intro w hSw; (try dsimp only at hSw); go_simp); try with_reducible rfl
          try simp only [Act.put, List.setIfInBounds_toArray, List.set_cons_zero, List.set_cons_succ]
          refine wpAnyH_take (i := 3) (oi := { dst := some 59, op := Op.move (Operand.tmp 8), type := 46, pos := "law.go:56", after := #[], guard := none }) (v := ?_) rfl (by kernel_rfl) (by kernel_rfl) (by kernel_rfl) (fun _ _ _ h => h) (Or.inl ⟨by kernel_rfl, ?_⟩) hHeld ?_
          rotate_left
          · (intro w hSw; (try dsimp only at hSw); go_simp); try with_reducible rfl
          try simp only [Act.put, List.setIfInBounds_toArray, List.set_cons_zero, List.set_cons_succ]
          refine wpAnyH_take (i := 4) (oi := { dst := some 60, op := Op.move (Operand.tmp 13), type := 3, pos := "law.go:56", after := #[], guard := none }) (v := ?_) rfl (by kernel_rfl) (by kernel_rfl) (by kernel_rfl) (fun _ _ _ h => h) (Or.inl ⟨by kernel_rfl, ?_⟩) hHeld ?_
          rotate_left
          · (intro w hSw; (try dsimp only at hSw); go_simp); try with_reducible rfl
          try simp only [Act.put, List.setIfInBounds_toArray, List.set_cons_zero, List.set_cons_succ]
          refine wpAnyH_take (i := 5) (oi := { dst := some 61, op := Op.indexAddr 46 (Operand.tmp 59) (Operand.tmp 60), type := 0, pos := "law.go:56", after := #[{ on := 3, ground := Ground.data }, { on := 4, ground := Ground.data }], guard := none }) (v := ?_) rfl (by kernel_rfl) (by kernel_rfl) (by kernel_rfl) (fun _ _ _ h => h) (Or.inl ⟨by kernel_rfl, ?_⟩) hHeld ?_
          rotate_left
          · (intro w hSw; (try dsimp only at hSw); go_simp); try with_reducible rfl
          try simp only [Act.put, List.setIfInBounds_toArray, List.set_cons_zero, List.set_cons_succ]
          refine wpAnyH_take (i := 6) (oi := { dst := some 62, op := Op.load 49 (Operand.tmp 61), type := 49, pos := "law.go:56", after := #[{ on := 5, ground := Ground.data }], guard := none }) (v := ?_) rfl (by kernel_rfl) (by kernel_rfl) (by kernel_rfl) (fun _ _ _ h => h) (Or.inl ⟨by kernel_rfl, ?_⟩) hHeld ?_
          rotate_left
          · (intro w hSw; (try dsimp only at hSw); go_simp); try with_reducible rfl
          try simp only [Act.put, List.setIfInBounds_toArray, List.set_cons_zero, List.set_cons_succ]
          refine wpAnyH_ready (rs := [2]) (by kernel_rfl) (by simp) ?_
          refine AllReadyH.cons (o := { dst := some 58, op := Op.call { callee := Callee.value (Operand.func 25), args := #[Operand.tmp 56, Operand.tmp 57], argTypes := #[54, 49] }, type := 49, pos := "law.go:56", after := #[{ on := 0, ground := Ground.data }, { on := 1, ground := Ground.data }], guard := none }) rfl (fun K hK => ?_) AllReadyH.nil
          have hOld := hide hHeld
          clear hHeld
          go_simp
          refine (HRF.out _ HR9.out).mono ?_
          rintro e w9 ⟨rfl, hr9, ho9⟩
          have HR10 := hide hr9
          have HLL := hide (left_any p _ _ w9 hr9)
          rw [← stS_ite] at HLL
          rw [HLV.out] at HLL
          have hS9 := hOld.out
          obtain ⟨u0, u1, u2, u3, y0, y1, y2, y3, l0, z0, z1, z2, zB⟩ := hS9
          have HS9 := hide (show (fun W => W.cell? ⟨wr.heap.size, 0, none⟩ = some (.int .i64 xk) ∧ W.cell? ⟨wr.heap.size, 1, none⟩ = some (.int .i64 xw) ∧ W.cell? ⟨wr.heap.size, 2, none⟩ = some (.int .u64 xn) ∧ W.cell? ⟨wr.heap.size, 3, none⟩ = some (.string xs) ∧ W.cell? ⟨g1, k * 4, none⟩ = some (.int .i64 yk) ∧ W.cell? ⟨g1, k * 4 + 1, none⟩ = some (.int .i64 yw) ∧ W.cell? ⟨g1, k * 4 + 2, none⟩ = some (.int .u64 yn) ∧ W.cell? ⟨g1, k * 4 + 3, none⟩ = some (.string ys) ∧ W.cell? ⟨g2, k, none⟩ = some (.int .i64 lv) ∧ wr.heap.size < W.heap.size ∧ g1 < W.heap.size ∧ g2 < W.heap.size ∧ Below p wr W) w9 from ⟨(only_cell ho9 z0 (by omega)).trans u0, (only_cell ho9 z0 (by omega)).trans u1, (only_cell ho9 z0 (by omega)).trans u2, (only_cell ho9 z0 (by omega)).trans u3, (only_cell ho9 z1 (by omega)).trans y0, (only_cell ho9 z1 (by omega)).trans y1, (only_cell ho9 z1 (by omega)).trans y2, (only_cell ho9 z1 (by omega)).trans y3, (only_cell ho9 z2 (by omega)).trans l0, Nat.lt_of_lt_of_le z0 ho9.size, Nat.lt_of_lt_of_le z1 ho9.size, Nat.lt_of_lt_of_le z2 ho9.size, zB.trans (ho9.from (by omega))⟩)
          clear hr9 ho9 u0 u1 u2 u3 y0 y1 y2 y3 l0 z0 z1 z2 zB
          (try go_wp2_with fail)
          refine hK.out _ _ (HS9.out) (fun hHeld => ?_)
          clear hK K hOld
          try simp only [Act.put, List.setIfInBounds_toArray, List.set_cons_zero, List.set_cons_succ]
          refine wpAnyH_take (i := 7) (oi := { dst := some 63, op := Op.binOp BinOp.neq 49 (Operand.tmp 58) (Operand.tmp 62) 49, type := 4, pos := "law.go:56", after := #[{ on := 2, ground := Ground.data }, { on := 6, ground := Ground.data }], guard := none }) (v := ?_) rfl (by kernel_rfl) (by kernel_rfl) (by kernel_rfl) (fun _ _ _ h => h) (Or.inl ⟨by kernel_rfl, ?_⟩) hHeld ?_
          rotate_left
          · (intro w hSw; (try dsimp only at hSw); go_simp); try with_reducible rfl
          try simp only [Act.put, List.setIfInBounds_toArray, List.set_cons_zero, List.set_cons_succ]
          refine wpAnyH_take (i := 8) (oi := { dst := some 64, op := Op.move (Operand.tmp 63), type := 4, pos := "law.go:56", after := #[{ on := 7, ground := Ground.data }, { on := 2, ground := Ground.chain }], guard := none }) (v := ?_) rfl (by kernel_rfl) (by kernel_rfl) (by kernel_rfl) (fun _ _ _ h => h) (Or.inl ⟨by kernel_rfl, ?_⟩) hHeld ?_
          rotate_left
          · (intro w hSw; (try dsimp only at hSw); go_simp); try with_reducible rfl
          try simp only [Act.put, List.setIfInBounds_toArray, List.set_cons_zero, List.set_cons_succ]
          refine wpAnyH_take (i := 9) (oi := { dst := some 65, op := Op.move (Operand.tmp 11), type := 54, pos := "law.go:56", after := #[{ on := 8, ground := Ground.guard }], guard := some (8, false) }) (v := ?_) rfl (by kernel_rfl) (by kernel_rfl) (by kernel_rfl) (fun _ _ _ h => h) (Or.inl ⟨by kernel_rfl, ?_⟩) hHeld ?_
          rotate_left
          · (intro w hSw; (try dsimp only at hSw); go_simp); try with_reducible rfl
          try simp only [Act.put, List.setIfInBounds_toArray, List.set_cons_zero, List.set_cons_succ]
          refine wpAnyH_take (i := 11) (oi := { dst := some 67, op := Op.move (Operand.tmp 9), type := 51, pos := "law.go:56", after := #[{ on := 8, ground := Ground.guard }], guard := some (8, false) }) (v := ?_) rfl (by kernel_rfl) (by kernel_rfl) (by kernel_rfl) (fun _ _ _ h => h) (Or.inl ⟨by kernel_rfl, ?_⟩) hHeld ?_
          rotate_left
          · (intro w hSw; (try dsimp only at hSw); go_simp); try with_reducible rfl
          try simp only [Act.put, List.setIfInBounds_toArray, List.set_cons_zero, List.set_cons_succ]
          refine wpAnyH_take (i := 12) (oi := { dst := some 68, op := Op.move (Operand.tmp 13), type := 3, pos := "law.go:56", after := #[{ on := 8, ground := Ground.guard }], guard := some (8, false) }) (v := ?_) rfl (by kernel_rfl) (by kernel_rfl) (by kernel_rfl) (fun _ _ _ h => h) (Or.inl ⟨by kernel_rfl, ?_⟩) hHeld ?_
          rotate_left
          · (intro w hSw; (try dsimp only at hSw); go_simp); try with_reducible rfl
          try simp only [Act.put, List.setIfInBounds_toArray, List.set_cons_zero, List.set_cons_succ]
          refine wpAnyH_take (i := 13) (oi := { dst := some 69, op := Op.indexAddr 51 (Operand.tmp 67) (Operand.tmp 68), type := 0, pos := "law.go:56", after := #[{ on := 11, ground := Ground.data }, { on := 12, ground := Ground.data }, { on := 8, ground := Ground.guard }], guard := some (8, false) }) (v := ?_) rfl (by kernel_rfl) (by kernel_rfl) (by kernel_rfl) (fun _ _ _ h => h) (Or.inl ⟨by kernel_rfl, ?_⟩) hHeld ?_
          rotate_left
          · (intro w hSw; (try dsimp only at hSw); go_simp); try with_reducible rfl
          try simp only [Act.put, List.setIfInBounds_toArray, List.set_cons_zero, List.set_cons_succ]
          refine wpAnyH_take (i := 14) (oi := { dst := some 70, op := Op.load 3 (Operand.tmp 69), type := 3, pos := "law.go:56", after := #[{ on := 13, ground := Ground.data }, { on := 8, ground := Ground.guard }], guard := some (8, false) }) (v := ?_) rfl (by kernel_rfl) (by kernel_rfl) (by kernel_rfl) (fun _ _ _ h => h) (Or.inl ⟨by kernel_rfl, ?_⟩) hHeld ?_
          rotate_left
          · (intro w hSw; (try dsimp only at hSw); go_simp); try with_reducible rfl
          try simp only [Act.put, List.setIfInBounds_toArray, List.set_cons_zero, List.set_cons_succ]
          refine wpAnyH_ready (rs := [10]) (by kernel_rfl) (by simp) ?_
          refine AllReadyH.cons (o := { dst := some 66, op := Op.call { callee := Callee.value (Operand.func 26), args := #[Operand.tmp 65], argTypes := #[54] }, type := 3, pos := "law.go:56", after := #[{ on := 9, ground := Ground.data }, { on := 8, ground := Ground.chain }, { on := 8, ground := Ground.guard }], guard := some (8, false) }) rfl (fun K hK => ?_) AllReadyH.nil
          have hOld := hide hHeld
          clear hHeld
          go_simp
          refine HLL.out.mono ?_
          rintro e w11 ⟨rfl, rfl⟩
          (try go_wp2_with fail)
          refine hK.out _ _ (HS9.out) (fun hHeld => ?_)
          clear hK K hOld
          try simp only [Act.put, List.setIfInBounds_toArray, List.set_cons_zero, List.set_cons_succ]
          refine wpAnyH_take (i := 15) (oi := { dst := some 71, op := Op.binOp BinOp.neq 3 (Operand.tmp 66) (Operand.tmp 70) 3, type := 4, pos := "law.go:56", after := #[{ on := 10, ground := Ground.data }, { on := 14, ground := Ground.data }, { on := 8, ground := Ground.guard }], guard := some (8, false) }) (v := ?_) rfl (by kernel_rfl) (by kernel_rfl) (by kernel_rfl) (fun _ _ _ h => h) (Or.inl ⟨by kernel_rfl, ?_⟩) hHeld ?_
          rotate_left
          · (intro w hSw; (try dsimp only at hSw); go_simp); try with_reducible rfl
          try simp only [Act.put, List.setIfInBounds_toArray, List.set_cons_zero, List.set_cons_succ]
          refine wpAnyH_take (i := 16) (oi := { dst := some 72, op := Op.pick (Operand.tmp 64) (Operand.const (Value.bool true)) (Operand.tmp 71), type := 4, pos := "law.go:56", after := #[{ on := 8, ground := Ground.data }, { on := 15, ground := Ground.data }], guard := none }) (v := ?_) rfl (by kernel_rfl) (by kernel_rfl) (by kernel_rfl) (fun _ _ _ h => h) (Or.inl ⟨by kernel_rfl, ?_⟩) hHeld ?_
          rotate_left
          · (intro w hSw; (try dsimp only at hSw); go_simp); try with_reducible rfl
          try simp only [Act.put, List.setIfInBounds_toArray, List.set_cons_zero, List.set_cons_succ]
          refine wpAnyH_done (by kernel_rfl) ?_ _
          obtain ⟨u0, u1, u2, u3, y0, y1, y2, y3, l0, z0, z1, z2, zB⟩ := HS9.out
          clear HR9 HSTART HRF HLL
          go_wp2_with fail
          go_roundw
          case rel => exact ⟨k + 1, by omega, by go_num, by rw [hnx.out]; simp only; rw [HLV.out], by rw [hnx.out]; exact HR10.out, HBK.out.trans zB⟩
          case measure => simp [intOf]; omega
        · obtain rfl : k = 30 := by omega
          rw [show m.take 30 = m by rw [← hml, List.take_length]] at hrd ⊢
          generalize (rdAll m S).2 = z at *
          obtain ⟨s', bad⟩ := z
          simp only at *
          have hle := end_any p s' bad wr hrd
          have hwr := wrong_any p s' bad wr hrd
          rw [stS_ite]
          have HBE := hide (HB7.out.trans (hB.mono HBW.out))
          clear hB HBK HF7 HO7 HL7
          cases bad
          · rw [if_neg (by simp)]
            by_cases h0 : s'.size = 0
            · rw [show endE s' false = 0 by unfold endE; rw [if_neg (by simp [h0])]] at hle
              rw [h0]
              have HRD9 := hide hrd
              clear hle hwr hrd
              go_wp2_with fail
              refine (wakes4 _).mono ?_
              rintro e w8 ⟨rfl, hb8⟩
              have HBE8 := hide (below_trans HBE.out hb8)
              have HEN := hide (end_any p _ _ _ (HRD9.out.below hb8))
              have HWR := hide (wrong_any p _ _ _ (HRD9.out.below hb8))
              rw [show endE s' false = 0 by unfold endE; rw [if_neg (by simp [h0])]] at HEN
              clear hb8
              go_wp2_with fail
              refine HEN.out.mono ?_
              rintro e w9 ⟨rfl, rfl⟩
              go_wp2_with fail
              refine HWR.out.mono ?_
              rintro e w10 ⟨rfl, rfl⟩
              go_wp2_with fail
              refine (wrong_nil _).mono ?_
              rintro e w11 ⟨rfl, rfl⟩
              go_wp2_with fail
              refine (number_nil _ _).mono ?_
              rintro e w12 ⟨rfl, hb12⟩
              have HB12 := hide (below_trans HBE8.out hb12)
              clear hb12
              go_wp2_with fail
              refine (signed_nil _).mono ?_
              rintro e w13 ⟨rfl, hb13⟩
              have HB13 := hide (below_trans HB12.out hb13)
              clear hb13
              go_wp2_with fail
              refine (text_nil _).mono ?_
              rintro e w14 ⟨rfl, rfl⟩
              go_wp2_with fail
              refine (left_nil _).mono ?_
              rintro e w15 ⟨rfl, rfl⟩
              go_wp2_with fail
              refine (end_nil _).mono ?_
              rintro e w16 ⟨rfl, rfl⟩
              go_wp2
              go_ret
              exact ⟨rfl, HB13.out⟩
            · rw [show endE s' false = 4 by unfold endE; rw [if_pos (.inr h0)]] at hle
              have hpos : (0 : Int) < (s'.size : Int) := by omega
              have HRD9 := hide hrd
              clear hle hwr hrd
              go_wp2_with fail
              refine (wakes4 _).mono ?_
              rintro e w8 ⟨rfl, hb8⟩
              have HBE8 := hide (below_trans HBE.out hb8)
              have HEN := hide (end_any p _ _ _ (HRD9.out.below hb8))
              have HWR := hide (wrong_any p _ _ _ (HRD9.out.below hb8))
              rw [show endE s' false = 4 by unfold endE; rw [if_pos (.inr h0)]] at HEN
              clear hb8
              go_wp2_with fail
              refine HEN.out.mono ?_
              rintro e w9 ⟨rfl, rfl⟩
              go_wp2_with fail
              refine HWR.out.mono ?_
              rintro e w10 ⟨rfl, rfl⟩
              go_wp2_with fail
              refine (wrong_nil _).mono ?_
              rintro e w11 ⟨rfl, rfl⟩
              go_wp2_with fail
              refine (number_nil _ _).mono ?_
              rintro e w12 ⟨rfl, hb12⟩
              have HB12 := hide (below_trans HBE8.out hb12)
              clear hb12
              go_wp2_with fail
              refine (signed_nil _).mono ?_
              rintro e w13 ⟨rfl, hb13⟩
              have HB13 := hide (below_trans HB12.out hb13)
              clear hb13
              go_wp2_with fail
              refine (text_nil _).mono ?_
              rintro e w14 ⟨rfl, rfl⟩
              go_wp2_with fail
              refine (left_nil _).mono ?_
              rintro e w15 ⟨rfl, rfl⟩
              go_wp2_with fail
              refine (end_nil _).mono ?_
              rintro e w16 ⟨rfl, rfl⟩
              go_wp2
              go_ret
              exact ⟨rfl, HB13.out⟩
          · rw [show endE s' true = 4 by unfold endE; rw [if_pos (.inl rfl)]] at hle
            rw [if_pos rfl]
            have HRD9 := hide hrd
            clear hle hwr hrd
            go_wp2_with fail
            refine (wakes4 _).mono ?_
            rintro e w8 ⟨rfl, hb8⟩
            have HBE8 := hide (below_trans HBE.out hb8)
            have HEN := hide (end_any p _ _ _ (HRD9.out.below hb8))
            have HWR := hide (wrong_any p _ _ _ (HRD9.out.below hb8))
            rw [show endE s' true = 4 by unfold endE; rw [if_pos (.inl rfl)]] at HEN
            clear hb8
            go_wp2_with fail
            refine HEN.out.mono ?_
            rintro e w9 ⟨rfl, rfl⟩
            go_wp2_with fail
            refine HWR.out.mono ?_
            rintro e w10 ⟨rfl, rfl⟩
            go_wp2_with fail
            refine (wrong_nil _).mono ?_
            rintro e w11 ⟨rfl, rfl⟩
            go_wp2_with fail
            refine (number_nil _ _).mono ?_
            rintro e w12 ⟨rfl, hb12⟩
            have HB12 := hide (below_trans HBE8.out hb12)
            clear hb12
            go_wp2_with fail
            refine (signed_nil _).mono ?_
            rintro e w13 ⟨rfl, hb13⟩
            have HB13 := hide (below_trans HB12.out hb13)
            clear hb13
            go_wp2_with fail
            refine (text_nil _).mono ?_
            rintro e w14 ⟨rfl, rfl⟩
            go_wp2_with fail
            refine (left_nil _).mono ?_
            rintro e w15 ⟨rfl, rfl⟩
            go_wp2_with fail
            refine (end_nil _).mono ?_
            rintro e w16 ⟨rfl, rfl⟩
            go_wp2
            go_ret
            exact ⟨rfl, HB13.out⟩
set_option maxRecDepth 100000 in
set_option maxHeartbeats 4000000 in
theorem curReads_sb (s : ByteArray) (hs64 : s.size ≤ 9223372036854775807) (h4 : 400 < s.size) (v : Value) (w : World) (L : List Fld) (a : Option Addr) (cap : Nat) (hv : v = .slice a L.length cap ∧ L.length ≤ cap ∧ cap ≤ 9223372036854775807 ∧ (∀ x ∈ L, FldOk x) ∧
    ∀ i, i < L.length → ∃ b off, a = some ⟨b, off, none⟩ ∧ b < w.heap.size ∧ w.cell? ⟨b, off + (i * 4), none⟩ = some (.int .i64 (L.getD i fld0).k) ∧ w.cell? ⟨b, off + (i * 4 + 1), none⟩ = some (.int .i64 (L.getD i fld0).w) ∧ w.cell? ⟨b, off + (i * 4 + 2), none⟩ = some (.int .u64 (L.getD i fld0).n) ∧ w.cell? ⟨b, off + (i * 4 + 3), none⟩ = some (.string (L.getD i fld0).s)) (hbig : L.length ≤ 30) :
    Calls Try.prog 8 #[.string s, v] w fun e w' => e = .returned (.bool true) ∧ Below w.heap.size w w' := by
  obtain ⟨rfl, hc, hcm, hok, hat⟩ := hv
  have HOK := hide hok
  have HAT := hide hat
  clear hok hat
  go_enter Try.func8, Try.ntmps8
  go_wp2_with fail
  obtain ⟨S, hS, hS4⟩ : ∃ S : ByteArray, S = s.extract 0 400 ∧ S.size ≤ 400 := ⟨_, rfl, by rw [ByteArray.size_extract]; omega⟩
  rw [← hS]
  clear hS
  obtain ⟨i0, hi, hz0, hz1, hz2⟩ := info_parts (show (Try.prog.info? 49).map (fun i => (i.zero, i.size, i.bytes)) = some (some (.agg #[.int .i64 0, .int .i64 0, .int .u64 0, .string ⟨#[]⟩]), 4, 40) by kernel_rfl)
  have HI := hide hi
  have HZ0 := hide hz0
  have HZ1 := hide hz1
  have HZ2 := hide hz2
  clear hi hz0 hz1 hz2
  go_loopw [5, 28] (fun v i W => ∃ (k : Nat) (am : Option Addr) (cm : Nat), k ≤ L.length ∧ i = .int .i64 k ∧ v = .slice am k cm ∧ W.ownsRow w.heap.size 49 4 (.slice am k cm) k (((L.take k).map ofF).flatMap fc) ∧ Below w.heap.size w W) (fun _ i _ => L.length - (intOf i).toNat)
  case atStart => exact ⟨0, none, 0, by omega, rfl, rfl, World.ownsRow_nil _ _ _ _, Below.refl _ _⟩
  case round =>
    obtain ⟨k, am, cm, hk, rfl, rfl, hown, hB⟩ := hrel
    have HOWN := hide hown
    have HB := hide hB
    by_cases hlt : k < L.length
    · obtain ⟨b, off, rfl, hb, c0, c1, c2, c3⟩ := HAT.out k (by omega)
      have d0 : wr.cell? ⟨b, off + k * 4, none⟩ = some (.int .i64 (L.getD k fld0).k) := by rw [hB.cell (p := ⟨b, off + k * 4, none⟩) hb]; exact c0
      have d1 : wr.cell? ⟨b, off + k * 4 + 1, none⟩ = some (.int .i64 (L.getD k fld0).w) := by rw [hB.cell (p := ⟨b, off + k * 4 + 1, none⟩) hb]; exact c1
      have d2 : wr.cell? ⟨b, off + k * 4 + 2, none⟩ = some (.int .u64 (L.getD k fld0).n) := by rw [hB.cell (p := ⟨b, off + k * 4 + 2, none⟩) hb]; exact c2
      have d3 : wr.cell? ⟨b, off + k * 4 + 3, none⟩ = some (.string (L.getD k fld0).s) := by rw [hB.cell (p := ⟨b, off + k * 4 + 3, none⟩) hb]; exact c3
      have hox := hide (HOK.out _ (getD_mem L k (by omega)))
      have hnx := hide (map_take L k (by omega))
      have hbw : b < wr.heap.size := Nat.lt_of_lt_of_le hb hB.size
      generalize L.getD k fld0 = x at *
      have HOF := hide (fun W => of_any x hox.out W)
      obtain ⟨xk, xw, xn, xs⟩ := x
      generalize hyy : ofF ⟨xk, xw, xn, xs⟩ = y at *
      obtain ⟨yk, yw, yn, ys⟩ := y
      simp only at d0 d1 d2 d3
      simp only [fc] at HOF
      have HA := hide (HB.out.alloc HB.out.size (.cells #[.int .i64 xk, .int .i64 xw, .int .u64 xn, .string xs] 48))
      have HOA := hide (HOWN.out.alloc (.cells #[.int .i64 xk, .int .i64 xw, .int .u64 xn, .string xs] 48))
      generalize ((L.take k).map ofF).flatMap fc = M at *
      clear hB c0 c1 c2 c3 hb hown hyy
      go_wp2_with fail
      refine (HOF.out _).mono ?_
      rintro e w2 ⟨rfl, hb2⟩
      have HA2 := hide (HA.out.trans (hb2.mono HA.out.size))
      have HO2 := hide (owns_below HOA.out hb2)
      have HA3 := hide (HA2.out.alloc HA2.out.size (.cells #[.int .i64 yk, .int .i64 yw, .int .u64 yn, .string ys] 49))
      have HO3 := hide (HO2.out.alloc (.cells #[.int .i64 yk, .int .i64 yw, .int .u64 yn, .string ys] 49))
      have HNEW := hide (new_row w2 ⟨yk, yw, yn, ys⟩)
      have HONE := hide (show ∀ u ∈ [Value.int .i64 yk, .int .i64 yw, .int .u64 yn, .string ys], u.oneCell' = true by intro u hu; simp at hu; rcases hu with rfl | rfl | rfl | rfl <;> rfl)
      have HGE := hide (fun j (h : (Value.slice am k cm).ownBlock = some j) => (HO3.out.lt j h).1)
      clear hb2 hbw d0 d1 d2 d3
      go_wp2_with (at_builtin; refine wpList_append_own _ rfl _ _ 46 rfl w.heap.size 49 i0 (.agg #[.int .i64 0, .int .i64 0, .int .u64 0, .string ⟨#[]⟩]) 4 40 Try.underlying46 HI.out HZ0.out HZ1.out HZ2.out rfl (by decide) (.slice am k cm) k M rfl HO3.out ⟨w2.heap.size, 0, none⟩ 1 1 [.int .i64 yk, .int .i64 yw, .int .u64 yn, .string ys] rfl rfl HNEW.out HONE.out (by unfold maxLen; omega) (by omega) HA3.out.size ?_; intro v' w' ho hgr hnil; obtain ⟨a2, c2, rfl⟩ := owns_slice_n ho; clear hnil; have HN := hide ho; have HBN := hide (HA3.out.grown hgr HA3.out.size HGE.out); clear ho hgr)
      go_roundw
      case rel => exact ⟨k + 1, a2, c2, by omega, by go_num, rfl, by rw [hnx.out]; exact HN.out, HBN.out⟩
      case measure => simp [intOf]; omega
    · obtain rfl : k = L.length := by omega
      clear hB hown
      obtain ⟨m, hm, hml⟩ : ∃ m : List Fld, m = (L.take L.length).map ofF ∧ m.length = L.length := ⟨_, rfl, by simp <;> omega⟩
      have hgood : ∀ x ∈ m, FldGood x := by
        intro x hx
        rw [hm] at hx
        obtain ⟨x', hx', rfl⟩ := List.mem_map.1 hx
        exact ofF_good (HOK.out x' (List.mem_of_mem_take hx'))
      have hfl := hide (show FldsAt wr wr.heap.size am m from flds_of_owns (cap := cm) (by have := HOWN.out; rw [← hm] at this; rw [hml]; exact this))
      have HREF := hide (refRead_any m (by omega) hgood am cm S (by omega) wr hfl.out)
      have HGOOD : Hid (∀ x ∈ m, 0 ≤ x.k ∧ x.k ≤ 2) := hide (fun x hx => (hgood x hx).1)
      have HRL := hide (rdAll_len S m)
      rw [hml] at HREF HRL
      clear hm hgood HOWN
      go_wp2_with fail
      refine HREF.out.mono ?_
      rintro e w3 ⟨a1, k1, a2, k2, rfl, ho1, ho2, hb3⟩
      have HB3 := hide (below_trans HB.out hb3)
      have HF3 := hide (show FldsAt w3 w3.heap.size am m from hfl.out.size hb3 hb3.size)
      rw [lefts_flat] at ho2
      rw [← HRL.out.1] at ho1
      rw [← HRL.out.2.1] at ho2
      have HO3 := hide ho1
      have HL3 := hide ho2
      clear hb3 HREF ho1 ho2
      go_wp2_with fail
      refine (read_any S _).mono ?_
      rintro e w7 ⟨rfl, hrd, hb7⟩
      have HB7 := hide (below_trans HB3.out hb7)
      have HF7 := hide (show FldsAt w7 w3.heap.size am m from HF3.out.below hb7)
      have HO7 := hide (owns_below HO3.out hb7)
      have HL7 := hide (owns_below HL3.out hb7)
      have HRD := hide hrd
      have hp7 := hide (show w3.heap.size < w7.heap.size from heap_lt hrd.row)
      have HBW := hide (show w.heap.size ≤ w3.heap.size from HB3.out.size)
      have HT1 := hide (owns_top HO3.out)
      have HT2 := hide (owns_top HL3.out)
      generalize w3.heap.size = p at *
      clear hrd hb7 HO3 HL3
      go_wp2_with fail
      go_loopw [51, 12] (fun i en W => ∃ k : Nat, k ≤ L.length ∧ i = .int .i64 k ∧ en = .int .i64 ((stS (rdAll (m.take k) S).2.1 (rdAll (m.take k) S).2.2).size : Int) ∧ RdAt W p (rdAll (m.take k) S).2.1 (rdAll (m.take k) S).2.2 ∧ Below p w7 W) (fun i _ _ => L.length - (intOf i).toNat)
      case atStart => exact ⟨0, by omega, rfl, rfl, HRD.out, Below.refl _ _⟩
      case round =>
        obtain ⟨k, hk9, rfl, rfl, hrd, hB⟩ := hrel
        have HBK := hide hB
        by_cases hlt9 : k < L.length
        · obtain ⟨g, rfl, hg, c0, c1, c2, c3⟩ := (HF7.out.below hB).at k (by omega)
          have hxk := HGOOD.out _ (getD_mem m k (by omega))
          obtain ⟨hrl1, hrl2, -⟩ := HRL.out
          obtain ⟨hat1, hat2⟩ := rdAll_at m S k (by omega)
          obtain ⟨g1, rfl, hg1, hg1s, e1⟩ := owns_rows fc fc_length fld0 HO7.out k (by omega)
          obtain ⟨g2, rfl, hg2, hg2s, e2⟩ := owns_rows (fun x : Int => [.int .i64 x]) (fun _ => rfl) 0 HL7.out k (by omega)
          rw [hat1] at e1
          rw [hat2] at e2
          have hnx := hide (rdAll_next m S k (by omega))
          have hsz := (rdAll_len S (m.take k)).2.2
          have HRF := hide (fun W hW => read_fld p (rdAll (m.take k) S).2.1 (by omega) (rdAll (m.take k) S).2.2 (m.getD k fld0) hxk W hW)
          have hz7 := hB.size
          generalize rdAll (m.take k) S = z at *
          generalize m.getD k fld0 = x at *
          simp only [rdStep] at hnx
          generalize rdF z.2.1 z.2.2 x = r at *
          obtain ⟨y, s', bad'⟩ := r
          obtain ⟨lv, hlv⟩ : ∃ lv : Int, ((stS s' bad').size : Int) = lv := ⟨_, rfl⟩
          have HLV := hide hlv
          simp only at *
          rw [hlv] at e2
          obtain ⟨xk, xw, xn, xs⟩ := x
          obtain ⟨yk, yw, yn, ys⟩ := y
          have y0 := e1 0 (by omega)
          have y1 := e1 1 (by omega)
          have y2 := e1 2 (by omega)
          have y3 := e1 3 (by omega)
          have l0 := e2 0 (by omega)
          simp only [fc, Nat.mul_one, Nat.add_zero, List.getElem?_cons_zero, List.getElem?_cons_succ] at y0 y1 y2 y3 l0 c0 c1 c2 c3
          have hgp : g1 < p := HT1.out _ rfl
          have hgp2 : g2 < p := HT2.out _ rfl
          have hpw := heap_lt hrd.row
          have HR9 := hide (show RdAt (wr.alloc (.cells #[.int .i64 xk, .int .i64 xw, .int .u64 xn, .string xs] 49)).drew p z.2.1 z.2.2 from ⟨(hrd.more (.cells #[.int .i64 xk, .int .i64 xw, .int .u64 xn, .string xs] 49)).row⟩)
          have hne := heap_new wr (.cells #[.int .i64 xk, .int .i64 xw, .int .u64 xn, .string xs] 49)
          obtain ⟨u0, u1, u2, u3, -⟩ := block4 hne
          have HSTART : Hid ((fun W => W.cell? ⟨wr.heap.size, 0, none⟩ = some (.int .i64 xk) ∧ W.cell? ⟨wr.heap.size, 1, none⟩ = some (.int .i64 xw) ∧ W.cell? ⟨wr.heap.size, 2, none⟩ = some (.int .u64 xn) ∧ W.cell? ⟨wr.heap.size, 3, none⟩ = some (.string xs) ∧ W.cell? ⟨g1, k * 4, none⟩ = some (.int .i64 yk) ∧ W.cell? ⟨g1, k * 4 + 1, none⟩ = some (.int .i64 yw) ∧ W.cell? ⟨g1, k * 4 + 2, none⟩ = some (.int .u64 yn) ∧ W.cell? ⟨g1, k * 4 + 3, none⟩ = some (.string ys) ∧ W.cell? ⟨g2, k, none⟩ = some (.int .i64 lv) ∧ wr.heap.size < W.heap.size ∧ g1 < W.heap.size ∧ g2 < W.heap.size ∧ Below p wr W) (wr.alloc (.cells #[.int .i64 xk, .int .i64 xw, .int .u64 xn, .string xs] 49)).drew) := hide ⟨u0, u1, u2, u3, (cell_keep' (hB.trans ((Below.refl p wr).alloc (Nat.le_of_lt hpw) _)) hgp).trans y0, (cell_keep' (hB.trans ((Below.refl p wr).alloc (Nat.le_of_lt hpw) _)) hgp).trans y1, (cell_keep' (hB.trans ((Below.refl p wr).alloc (Nat.le_of_lt hpw) _)) hgp).trans y2, (cell_keep' (hB.trans ((Below.refl p wr).alloc (Nat.le_of_lt hpw) _)) hgp).trans y3, (cell_keep' (hB.trans ((Below.refl p wr).alloc (Nat.le_of_lt hpw) _)) hgp2).trans l0, by show _ < (wr.alloc _).heap.size; simp, by show _ < (wr.alloc _).heap.size; simp; omega, by show _ < (wr.alloc _).heap.size; simp; omega, ((Below.refl p wr).alloc (Nat.le_of_lt hpw) _).drew⟩
          have hgw : g < wr.heap.size := by omega
          have hneq := fun W => neq_fld yk yw yn ys W
          have hgd := fun x y a b W => guard_fld x y a b W
          simp only [fc] at HRF
          clear hrl1 hrl2 hrd hB hne hg hat1 hat2 e1 e2 hlv y0 y1 y2 y3 l0 u0 u1 u2 u3 hg1 hg2 hg1s hg2s
          go_wp2_with fail
          refine wp_region_held_drew (S := (fun W => W.cell? ⟨wr.heap.size, 0, none⟩ = some (.int .i64 xk) ∧ W.cell? ⟨wr.heap.size, 1, none⟩ = some (.int .i64 xw) ∧ W.cell? ⟨wr.heap.size, 2, none⟩ = some (.int .u64 xn) ∧ W.cell? ⟨wr.heap.size, 3, none⟩ = some (.string xs) ∧ W.cell? ⟨g1, k * 4, none⟩ = some (.int .i64 yk) ∧ W.cell? ⟨g1, k * 4 + 1, none⟩ = some (.int .i64 yw) ∧ W.cell? ⟨g1, k * 4 + 2, none⟩ = some (.int .u64 yn) ∧ W.cell? ⟨g1, k * 4 + 3, none⟩ = some (.string ys) ∧ W.cell? ⟨g2, k, none⟩ = some (.int .i64 lv) ∧ wr.heap.size < W.heap.size ∧ g1 < W.heap.size ∧ g2 < W.heap.size ∧ Below p wr W)) (by kernel_rfl) (HSTART.out) (fun hHeld => ?_)
          refine wpAnyH_take (i := 0) (oi := { dst := some 56, op := Op.move (Operand.tmp 11), type := 54, pos := "law.go:56", after := #[], guard := none }) (v := ?_) rfl (by kernel_rfl) (by kernel_rfl) (by kernel_rfl) (fun _ _ _ h => h) (Or.inl ⟨by kernel_rfl, ?_⟩) hHeld ?_
          rotate_left
          · (intro w hSw; (try dsimp only at hSw); go_simp); try with_reducible rfl
          try simp only [Act.put, List.setIfInBounds_toArray, List.set_cons_zero, List.set_cons_succ]
          refine wpAnyH_take (i := 1) (oi := { dst := some 57, op := Op.load 49 (Operand.tmp 14), type := 49, pos := "law.go:56", after := #[], guard := none }) (v := ?_) rfl (by kernel_rfl) (by kernel_rfl) (by kernel_rfl) (fun _ _ _ h => h) (Or.inl ⟨by kernel_rfl, ?_⟩) hHeld ?_
          rotate_left
          · (intro w hSw; (try dsimp only at hSw); go_simp); try with_reducible rfl
          try simp only [Act.put, List.setIfInBounds_toArray, List.set_cons_zero, List.set_cons_succ]
          refine wpAnyH_take (i := 3) (oi := { dst := some 59, op := Op.move (Operand.tmp 8), type := 46, pos := "law.go:56", after := #[], guard := none }) (v := ?_) rfl (by kernel_rfl) (by kernel_rfl) (by kernel_rfl) (fun _ _ _ h => h) (Or.inl ⟨by kernel_rfl, ?_⟩) hHeld ?_
          rotate_left
          · (intro w hSw; (try dsimp only at hSw); go_simp); try with_reducible rfl
          try simp only [Act.put, List.setIfInBounds_toArray, List.set_cons_zero, List.set_cons_succ]
          refine wpAnyH_take (i := 4) (oi := { dst := some 60, op := Op.move (Operand.tmp 13), type := 3, pos := "law.go:56", after := #[], guard := none }) (v := ?_) rfl (by kernel_rfl) (by kernel_rfl) (by kernel_rfl) (fun _ _ _ h => h) (Or.inl ⟨by kernel_rfl, ?_⟩) hHeld ?_
          rotate_left
          · (intro w hSw; (try dsimp only at hSw); go_simp); try with_reducible rfl
          try simp only [Act.put, List.setIfInBounds_toArray, List.set_cons_zero, List.set_cons_succ]
          refine wpAnyH_take (i := 5) (oi := { dst := some 61, op := Op.indexAddr 46 (Operand.tmp 59) (Operand.tmp 60), type := 0, pos := "law.go:56", after := #[{ on := 3, ground := Ground.data }, { on := 4, ground := Ground.data }], guard := none }) (v := ?_) rfl (by kernel_rfl) (by kernel_rfl) (by kernel_rfl) (fun _ _ _ h => h) (Or.inl ⟨by kernel_rfl, ?_⟩) hHeld ?_
          rotate_left
          · (intro w hSw; (try dsimp only at hSw); go_simp); try with_reducible rfl
          try simp only [Act.put, List.setIfInBounds_toArray, List.set_cons_zero, List.set_cons_succ]
          refine wpAnyH_take (i := 6) (oi := { dst := some 62, op := Op.load 49 (Operand.tmp 61), type := 49, pos := "law.go:56", after := #[{ on := 5, ground := Ground.data }], guard := none }) (v := ?_) rfl (by kernel_rfl) (by kernel_rfl) (by kernel_rfl) (fun _ _ _ h => h) (Or.inl ⟨by kernel_rfl, ?_⟩) hHeld ?_
          rotate_left
          · (intro w hSw; (try dsimp only at hSw); go_simp); try with_reducible rfl
          try simp only [Act.put, List.setIfInBounds_toArray, List.set_cons_zero, List.set_cons_succ]
          refine wpAnyH_ready (rs := [2]) (by kernel_rfl) (by simp) ?_
          refine AllReadyH.cons (o := { dst := some 58, op := Op.call { callee := Callee.value (Operand.func 25), args := #[Operand.tmp 56, Operand.tmp 57], argTypes := #[54, 49] }, type := 49, pos := "law.go:56", after := #[{ on := 0, ground := Ground.data }, { on := 1, ground := Ground.data }], guard := none }) rfl (fun K hK => ?_) AllReadyH.nil
          have hOld := hide hHeld
          clear hHeld
          go_simp
          refine (HRF.out _ HR9.out).mono ?_
          rintro e w9 ⟨rfl, hr9, ho9⟩
          have HR10 := hide hr9
          have HLL := hide (left_any p _ _ w9 hr9)
          rw [← stS_ite] at HLL
          rw [HLV.out] at HLL
          have hS9 := hOld.out
          obtain ⟨u0, u1, u2, u3, y0, y1, y2, y3, l0, z0, z1, z2, zB⟩ := hS9
          have HS9 := hide (show (fun W => W.cell? ⟨wr.heap.size, 0, none⟩ = some (.int .i64 xk) ∧ W.cell? ⟨wr.heap.size, 1, none⟩ = some (.int .i64 xw) ∧ W.cell? ⟨wr.heap.size, 2, none⟩ = some (.int .u64 xn) ∧ W.cell? ⟨wr.heap.size, 3, none⟩ = some (.string xs) ∧ W.cell? ⟨g1, k * 4, none⟩ = some (.int .i64 yk) ∧ W.cell? ⟨g1, k * 4 + 1, none⟩ = some (.int .i64 yw) ∧ W.cell? ⟨g1, k * 4 + 2, none⟩ = some (.int .u64 yn) ∧ W.cell? ⟨g1, k * 4 + 3, none⟩ = some (.string ys) ∧ W.cell? ⟨g2, k, none⟩ = some (.int .i64 lv) ∧ wr.heap.size < W.heap.size ∧ g1 < W.heap.size ∧ g2 < W.heap.size ∧ Below p wr W) w9 from ⟨(only_cell ho9 z0 (by omega)).trans u0, (only_cell ho9 z0 (by omega)).trans u1, (only_cell ho9 z0 (by omega)).trans u2, (only_cell ho9 z0 (by omega)).trans u3, (only_cell ho9 z1 (by omega)).trans y0, (only_cell ho9 z1 (by omega)).trans y1, (only_cell ho9 z1 (by omega)).trans y2, (only_cell ho9 z1 (by omega)).trans y3, (only_cell ho9 z2 (by omega)).trans l0, Nat.lt_of_lt_of_le z0 ho9.size, Nat.lt_of_lt_of_le z1 ho9.size, Nat.lt_of_lt_of_le z2 ho9.size, zB.trans (ho9.from (by omega))⟩)
          clear hr9 ho9 u0 u1 u2 u3 y0 y1 y2 y3 l0 z0 z1 z2 zB
          (try go_wp2_with fail)
          refine hK.out _ _ (HS9.out) (fun hHeld => ?_)
          clear hK K hOld
          try simp only [Act.put, List.setIfInBounds_toArray, List.set_cons_zero, List.set_cons_succ]
          refine wpAnyH_take (i := 7) (oi := { dst := some 63, op := Op.binOp BinOp.neq 49 (Operand.tmp 58) (Operand.tmp 62) 49, type := 4, pos := "law.go:56", after := #[{ on := 2, ground := Ground.data }, { on := 6, ground := Ground.data }], guard := none }) (v := ?_) rfl (by kernel_rfl) (by kernel_rfl) (by kernel_rfl) (fun _ _ _ h => h) (Or.inl ⟨by kernel_rfl, ?_⟩) hHeld ?_
          rotate_left
          · (intro w hSw; (try dsimp only at hSw); go_simp); try with_reducible rfl
          try simp only [Act.put, List.setIfInBounds_toArray, List.set_cons_zero, List.set_cons_succ]
          refine wpAnyH_take (i := 8) (oi := { dst := some 64, op := Op.move (Operand.tmp 63), type := 4, pos := "law.go:56", after := #[{ on := 7, ground := Ground.data }, { on := 2, ground := Ground.chain }], guard := none }) (v := ?_) rfl (by kernel_rfl) (by kernel_rfl) (by kernel_rfl) (fun _ _ _ h => h) (Or.inl ⟨by kernel_rfl, ?_⟩) hHeld ?_
          rotate_left
          · (intro w hSw; (try dsimp only at hSw); go_simp); try with_reducible rfl
          try simp only [Act.put, List.setIfInBounds_toArray, List.set_cons_zero, List.set_cons_succ]
          refine wpAnyH_take (i := 9) (oi := { dst := some 65, op := Op.move (Operand.tmp 11), type := 54, pos := "law.go:56", after := #[{ on := 8, ground := Ground.guard }], guard := some (8, false) }) (v := ?_) rfl (by kernel_rfl) (by kernel_rfl) (by kernel_rfl) (fun _ _ _ h => h) (Or.inl ⟨by kernel_rfl, ?_⟩) hHeld ?_
          rotate_left
          · (intro w hSw; (try dsimp only at hSw); go_simp); try with_reducible rfl
          try simp only [Act.put, List.setIfInBounds_toArray, List.set_cons_zero, List.set_cons_succ]
          refine wpAnyH_take (i := 11) (oi := { dst := some 67, op := Op.move (Operand.tmp 9), type := 51, pos := "law.go:56", after := #[{ on := 8, ground := Ground.guard }], guard := some (8, false) }) (v := ?_) rfl (by kernel_rfl) (by kernel_rfl) (by kernel_rfl) (fun _ _ _ h => h) (Or.inl ⟨by kernel_rfl, ?_⟩) hHeld ?_
          rotate_left
          · (intro w hSw; (try dsimp only at hSw); go_simp); try with_reducible rfl
          try simp only [Act.put, List.setIfInBounds_toArray, List.set_cons_zero, List.set_cons_succ]
          refine wpAnyH_take (i := 12) (oi := { dst := some 68, op := Op.move (Operand.tmp 13), type := 3, pos := "law.go:56", after := #[{ on := 8, ground := Ground.guard }], guard := some (8, false) }) (v := ?_) rfl (by kernel_rfl) (by kernel_rfl) (by kernel_rfl) (fun _ _ _ h => h) (Or.inl ⟨by kernel_rfl, ?_⟩) hHeld ?_
          rotate_left
          · (intro w hSw; (try dsimp only at hSw); go_simp); try with_reducible rfl
          try simp only [Act.put, List.setIfInBounds_toArray, List.set_cons_zero, List.set_cons_succ]
          refine wpAnyH_take (i := 13) (oi := { dst := some 69, op := Op.indexAddr 51 (Operand.tmp 67) (Operand.tmp 68), type := 0, pos := "law.go:56", after := #[{ on := 11, ground := Ground.data }, { on := 12, ground := Ground.data }, { on := 8, ground := Ground.guard }], guard := some (8, false) }) (v := ?_) rfl (by kernel_rfl) (by kernel_rfl) (by kernel_rfl) (fun _ _ _ h => h) (Or.inl ⟨by kernel_rfl, ?_⟩) hHeld ?_
          rotate_left
          · (intro w hSw; (try dsimp only at hSw); go_simp); try with_reducible rfl
          try simp only [Act.put, List.setIfInBounds_toArray, List.set_cons_zero, List.set_cons_succ]
          refine wpAnyH_take (i := 14) (oi := { dst := some 70, op := Op.load 3 (Operand.tmp 69), type := 3, pos := "law.go:56", after := #[{ on := 13, ground := Ground.data }, { on := 8, ground := Ground.guard }], guard := some (8, false) }) (v := ?_) rfl (by kernel_rfl) (by kernel_rfl) (by kernel_rfl) (fun _ _ _ h => h) (Or.inl ⟨by kernel_rfl, ?_⟩) hHeld ?_
          rotate_left
          · (intro w hSw; (try dsimp only at hSw); go_simp); try with_reducible rfl
          try simp only [Act.put, List.setIfInBounds_toArray, List.set_cons_zero, List.set_cons_succ]
          refine wpAnyH_ready (rs := [10]) (by kernel_rfl) (by simp) ?_
          refine AllReadyH.cons (o := { dst := some 66, op := Op.call { callee := Callee.value (Operand.func 26), args := #[Operand.tmp 65], argTypes := #[54] }, type := 3, pos := "law.go:56", after := #[{ on := 9, ground := Ground.data }, { on := 8, ground := Ground.chain }, { on := 8, ground := Ground.guard }], guard := some (8, false) }) rfl (fun K hK => ?_) AllReadyH.nil
          have hOld := hide hHeld
          clear hHeld
          go_simp
          refine HLL.out.mono ?_
          rintro e w11 ⟨rfl, rfl⟩
          (try go_wp2_with fail)
          refine hK.out _ _ (HS9.out) (fun hHeld => ?_)
          clear hK K hOld
          try simp only [Act.put, List.setIfInBounds_toArray, List.set_cons_zero, List.set_cons_succ]
          refine wpAnyH_take (i := 15) (oi := { dst := some 71, op := Op.binOp BinOp.neq 3 (Operand.tmp 66) (Operand.tmp 70) 3, type := 4, pos := "law.go:56", after := #[{ on := 10, ground := Ground.data }, { on := 14, ground := Ground.data }, { on := 8, ground := Ground.guard }], guard := some (8, false) }) (v := ?_) rfl (by kernel_rfl) (by kernel_rfl) (by kernel_rfl) (fun _ _ _ h => h) (Or.inl ⟨by kernel_rfl, ?_⟩) hHeld ?_
          rotate_left
          · (intro w hSw; (try dsimp only at hSw); go_simp); try with_reducible rfl
          try simp only [Act.put, List.setIfInBounds_toArray, List.set_cons_zero, List.set_cons_succ]
          refine wpAnyH_take (i := 16) (oi := { dst := some 72, op := Op.pick (Operand.tmp 64) (Operand.const (Value.bool true)) (Operand.tmp 71), type := 4, pos := "law.go:56", after := #[{ on := 8, ground := Ground.data }, { on := 15, ground := Ground.data }], guard := none }) (v := ?_) rfl (by kernel_rfl) (by kernel_rfl) (by kernel_rfl) (fun _ _ _ h => h) (Or.inl ⟨by kernel_rfl, ?_⟩) hHeld ?_
          rotate_left
          · (intro w hSw; (try dsimp only at hSw); go_simp); try with_reducible rfl
          try simp only [Act.put, List.setIfInBounds_toArray, List.set_cons_zero, List.set_cons_succ]
          refine wpAnyH_done (by kernel_rfl) ?_ _
          obtain ⟨u0, u1, u2, u3, y0, y1, y2, y3, l0, z0, z1, z2, zB⟩ := HS9.out
          clear HR9 HSTART HRF HLL
          go_wp2_with fail
          go_roundw
          case rel => exact ⟨k + 1, by omega, by go_num, by rw [hnx.out]; simp only; rw [HLV.out], by rw [hnx.out]; exact HR10.out, HBK.out.trans zB⟩
          case measure => simp [intOf]; omega
        · obtain rfl : k = L.length := by omega
          rw [show m.take L.length = m by rw [← hml, List.take_length]] at hrd ⊢
          generalize (rdAll m S).2 = z at *
          obtain ⟨s', bad⟩ := z
          simp only at *
          have hle := end_any p s' bad wr hrd
          have hwr := wrong_any p s' bad wr hrd
          rw [stS_ite]
          have HBE := hide (HB7.out.trans (hB.mono HBW.out))
          clear hB HBK HF7 HO7 HL7
          cases bad
          · rw [if_neg (by simp)]
            by_cases h0 : s'.size = 0
            · rw [show endE s' false = 0 by unfold endE; rw [if_neg (by simp [h0])]] at hle
              rw [h0]
              have HRD9 := hide hrd
              clear hle hwr hrd
              go_wp2_with fail
              refine (wakes4 _).mono ?_
              rintro e w8 ⟨rfl, hb8⟩
              have HBE8 := hide (below_trans HBE.out hb8)
              have HEN := hide (end_any p _ _ _ (HRD9.out.below hb8))
              have HWR := hide (wrong_any p _ _ _ (HRD9.out.below hb8))
              rw [show endE s' false = 0 by unfold endE; rw [if_neg (by simp [h0])]] at HEN
              clear hb8
              go_wp2_with fail
              refine HEN.out.mono ?_
              rintro e w9 ⟨rfl, rfl⟩
              go_wp2_with fail
              refine HWR.out.mono ?_
              rintro e w10 ⟨rfl, rfl⟩
              go_wp2_with fail
              refine (wrong_nil _).mono ?_
              rintro e w11 ⟨rfl, rfl⟩
              go_wp2_with fail
              refine (number_nil _ _).mono ?_
              rintro e w12 ⟨rfl, hb12⟩
              have HB12 := hide (below_trans HBE8.out hb12)
              clear hb12
              go_wp2_with fail
              refine (signed_nil _).mono ?_
              rintro e w13 ⟨rfl, hb13⟩
              have HB13 := hide (below_trans HB12.out hb13)
              clear hb13
              go_wp2_with fail
              refine (text_nil _).mono ?_
              rintro e w14 ⟨rfl, rfl⟩
              go_wp2_with fail
              refine (left_nil _).mono ?_
              rintro e w15 ⟨rfl, rfl⟩
              go_wp2_with fail
              refine (end_nil _).mono ?_
              rintro e w16 ⟨rfl, rfl⟩
              go_wp2
              go_ret
              exact ⟨rfl, HB13.out⟩
            · rw [show endE s' false = 4 by unfold endE; rw [if_pos (.inr h0)]] at hle
              have hpos : (0 : Int) < (s'.size : Int) := by omega
              have HRD9 := hide hrd
              clear hle hwr hrd
              go_wp2_with fail
              refine (wakes4 _).mono ?_
              rintro e w8 ⟨rfl, hb8⟩
              have HBE8 := hide (below_trans HBE.out hb8)
              have HEN := hide (end_any p _ _ _ (HRD9.out.below hb8))
              have HWR := hide (wrong_any p _ _ _ (HRD9.out.below hb8))
              rw [show endE s' false = 4 by unfold endE; rw [if_pos (.inr h0)]] at HEN
              clear hb8
              go_wp2_with fail
              refine HEN.out.mono ?_
              rintro e w9 ⟨rfl, rfl⟩
              go_wp2_with fail
              refine HWR.out.mono ?_
              rintro e w10 ⟨rfl, rfl⟩
              go_wp2_with fail
              refine (wrong_nil _).mono ?_
              rintro e w11 ⟨rfl, rfl⟩
              go_wp2_with fail
              refine (number_nil _ _).mono ?_
              rintro e w12 ⟨rfl, hb12⟩
              have HB12 := hide (below_trans HBE8.out hb12)
              clear hb12
              go_wp2_with fail
              refine (signed_nil _).mono ?_
              rintro e w13 ⟨rfl, hb13⟩
              have HB13 := hide (below_trans HB12.out hb13)
              clear hb13
              go_wp2_with fail
              refine (text_nil _).mono ?_
              rintro e w14 ⟨rfl, rfl⟩
              go_wp2_with fail
              refine (left_nil _).mono ?_
              rintro e w15 ⟨rfl, rfl⟩
              go_wp2_with fail
              refine (end_nil _).mono ?_
              rintro e w16 ⟨rfl, rfl⟩
              go_wp2
              go_ret
              exact ⟨rfl, HB13.out⟩
          · rw [show endE s' true = 4 by unfold endE; rw [if_pos (.inl rfl)]] at hle
            rw [if_pos rfl]
            have HRD9 := hide hrd
            clear hle hwr hrd
            go_wp2_with fail
            refine (wakes4 _).mono ?_
            rintro e w8 ⟨rfl, hb8⟩
            have HBE8 := hide (below_trans HBE.out hb8)
            have HEN := hide (end_any p _ _ _ (HRD9.out.below hb8))
            have HWR := hide (wrong_any p _ _ _ (HRD9.out.below hb8))
            rw [show endE s' true = 4 by unfold endE; rw [if_pos (.inl rfl)]] at HEN
            clear hb8
            go_wp2_with fail
            refine HEN.out.mono ?_
            rintro e w9 ⟨rfl, rfl⟩
            go_wp2_with fail
            refine HWR.out.mono ?_
            rintro e w10 ⟨rfl, rfl⟩
            go_wp2_with fail
            refine (wrong_nil _).mono ?_
            rintro e w11 ⟨rfl, rfl⟩
            go_wp2_with fail
            refine (number_nil _ _).mono ?_
            rintro e w12 ⟨rfl, hb12⟩
            have HB12 := hide (below_trans HBE8.out hb12)
            clear hb12
            go_wp2_with fail
            refine (signed_nil _).mono ?_
            rintro e w13 ⟨rfl, hb13⟩
            have HB13 := hide (below_trans HB12.out hb13)
            clear hb13
            go_wp2_with fail
            refine (text_nil _).mono ?_
            rintro e w14 ⟨rfl, rfl⟩
            go_wp2_with fail
            refine (left_nil _).mono ?_
            rintro e w15 ⟨rfl, rfl⟩
            go_wp2_with fail
            refine (end_nil _).mono ?_
            rintro e w16 ⟨rfl, rfl⟩
            go_wp2
            go_ret
            exact ⟨rfl, HB13.out⟩
set_option maxRecDepth 100000 in
set_option maxHeartbeats 4000000 in
theorem curReads_ss (s : ByteArray) (hs64 : s.size ≤ 9223372036854775807) (h4 : s.size ≤ 400) (v : Value) (w : World) (L : List Fld) (a : Option Addr) (cap : Nat) (hv : v = .slice a L.length cap ∧ L.length ≤ cap ∧ cap ≤ 9223372036854775807 ∧ (∀ x ∈ L, FldOk x) ∧
    ∀ i, i < L.length → ∃ b off, a = some ⟨b, off, none⟩ ∧ b < w.heap.size ∧ w.cell? ⟨b, off + (i * 4), none⟩ = some (.int .i64 (L.getD i fld0).k) ∧ w.cell? ⟨b, off + (i * 4 + 1), none⟩ = some (.int .i64 (L.getD i fld0).w) ∧ w.cell? ⟨b, off + (i * 4 + 2), none⟩ = some (.int .u64 (L.getD i fld0).n) ∧ w.cell? ⟨b, off + (i * 4 + 3), none⟩ = some (.string (L.getD i fld0).s)) (hbig : L.length ≤ 30) :
    Calls Try.prog 8 #[.string s, v] w fun e w' => e = .returned (.bool true) ∧ Below w.heap.size w w' := by
  obtain ⟨rfl, hc, hcm, hok, hat⟩ := hv
  have HOK := hide hok
  have HAT := hide hat
  clear hok hat
  go_enter Try.func8, Try.ntmps8
  go_wp2_with fail
  obtain ⟨S, hS, hS4⟩ : ∃ S : ByteArray, S = s ∧ S.size ≤ 400 := ⟨_, rfl, by omega⟩
  subst hS
  skip
  obtain ⟨i0, hi, hz0, hz1, hz2⟩ := info_parts (show (Try.prog.info? 49).map (fun i => (i.zero, i.size, i.bytes)) = some (some (.agg #[.int .i64 0, .int .i64 0, .int .u64 0, .string ⟨#[]⟩]), 4, 40) by kernel_rfl)
  have HI := hide hi
  have HZ0 := hide hz0
  have HZ1 := hide hz1
  have HZ2 := hide hz2
  clear hi hz0 hz1 hz2
  go_loopw [5, 28] (fun v i W => ∃ (k : Nat) (am : Option Addr) (cm : Nat), k ≤ L.length ∧ i = .int .i64 k ∧ v = .slice am k cm ∧ W.ownsRow w.heap.size 49 4 (.slice am k cm) k (((L.take k).map ofF).flatMap fc) ∧ Below w.heap.size w W) (fun _ i _ => L.length - (intOf i).toNat)
  case atStart => exact ⟨0, none, 0, by omega, rfl, rfl, World.ownsRow_nil _ _ _ _, Below.refl _ _⟩
  case round =>
    obtain ⟨k, am, cm, hk, rfl, rfl, hown, hB⟩ := hrel
    have HOWN := hide hown
    have HB := hide hB
    by_cases hlt : k < L.length
    · obtain ⟨b, off, rfl, hb, c0, c1, c2, c3⟩ := HAT.out k (by omega)
      have d0 : wr.cell? ⟨b, off + k * 4, none⟩ = some (.int .i64 (L.getD k fld0).k) := by rw [hB.cell (p := ⟨b, off + k * 4, none⟩) hb]; exact c0
      have d1 : wr.cell? ⟨b, off + k * 4 + 1, none⟩ = some (.int .i64 (L.getD k fld0).w) := by rw [hB.cell (p := ⟨b, off + k * 4 + 1, none⟩) hb]; exact c1
      have d2 : wr.cell? ⟨b, off + k * 4 + 2, none⟩ = some (.int .u64 (L.getD k fld0).n) := by rw [hB.cell (p := ⟨b, off + k * 4 + 2, none⟩) hb]; exact c2
      have d3 : wr.cell? ⟨b, off + k * 4 + 3, none⟩ = some (.string (L.getD k fld0).s) := by rw [hB.cell (p := ⟨b, off + k * 4 + 3, none⟩) hb]; exact c3
      have hox := hide (HOK.out _ (getD_mem L k (by omega)))
      have hnx := hide (map_take L k (by omega))
      have hbw : b < wr.heap.size := Nat.lt_of_lt_of_le hb hB.size
      generalize L.getD k fld0 = x at *
      have HOF := hide (fun W => of_any x hox.out W)
      obtain ⟨xk, xw, xn, xs⟩ := x
      generalize hyy : ofF ⟨xk, xw, xn, xs⟩ = y at *
      obtain ⟨yk, yw, yn, ys⟩ := y
      simp only at d0 d1 d2 d3
      simp only [fc] at HOF
      have HA := hide (HB.out.alloc HB.out.size (.cells #[.int .i64 xk, .int .i64 xw, .int .u64 xn, .string xs] 48))
      have HOA := hide (HOWN.out.alloc (.cells #[.int .i64 xk, .int .i64 xw, .int .u64 xn, .string xs] 48))
      generalize ((L.take k).map ofF).flatMap fc = M at *
      clear hB c0 c1 c2 c3 hb hown hyy
      go_wp2_with fail
      refine (HOF.out _).mono ?_
      rintro e w2 ⟨rfl, hb2⟩
      have HA2 := hide (HA.out.trans (hb2.mono HA.out.size))
      have HO2 := hide (owns_below HOA.out hb2)
      have HA3 := hide (HA2.out.alloc HA2.out.size (.cells #[.int .i64 yk, .int .i64 yw, .int .u64 yn, .string ys] 49))
      have HO3 := hide (HO2.out.alloc (.cells #[.int .i64 yk, .int .i64 yw, .int .u64 yn, .string ys] 49))
      have HNEW := hide (new_row w2 ⟨yk, yw, yn, ys⟩)
      have HONE := hide (show ∀ u ∈ [Value.int .i64 yk, .int .i64 yw, .int .u64 yn, .string ys], u.oneCell' = true by intro u hu; simp at hu; rcases hu with rfl | rfl | rfl | rfl <;> rfl)
      have HGE := hide (fun j (h : (Value.slice am k cm).ownBlock = some j) => (HO3.out.lt j h).1)
      clear hb2 hbw d0 d1 d2 d3
      go_wp2_with (at_builtin; refine wpList_append_own _ rfl _ _ 46 rfl w.heap.size 49 i0 (.agg #[.int .i64 0, .int .i64 0, .int .u64 0, .string ⟨#[]⟩]) 4 40 Try.underlying46 HI.out HZ0.out HZ1.out HZ2.out rfl (by decide) (.slice am k cm) k M rfl HO3.out ⟨w2.heap.size, 0, none⟩ 1 1 [.int .i64 yk, .int .i64 yw, .int .u64 yn, .string ys] rfl rfl HNEW.out HONE.out (by unfold maxLen; omega) (by omega) HA3.out.size ?_; intro v' w' ho hgr hnil; obtain ⟨a2, c2, rfl⟩ := owns_slice_n ho; clear hnil; have HN := hide ho; have HBN := hide (HA3.out.grown hgr HA3.out.size HGE.out); clear ho hgr)
      go_roundw
      case rel => exact ⟨k + 1, a2, c2, by omega, by go_num, rfl, by rw [hnx.out]; exact HN.out, HBN.out⟩
      case measure => simp [intOf]; omega
    · obtain rfl : k = L.length := by omega
      clear hB hown
      obtain ⟨m, hm, hml⟩ : ∃ m : List Fld, m = (L.take L.length).map ofF ∧ m.length = L.length := ⟨_, rfl, by simp <;> omega⟩
      have hgood : ∀ x ∈ m, FldGood x := by
        intro x hx
        rw [hm] at hx
        obtain ⟨x', hx', rfl⟩ := List.mem_map.1 hx
        exact ofF_good (HOK.out x' (List.mem_of_mem_take hx'))
      have hfl := hide (show FldsAt wr wr.heap.size am m from flds_of_owns (cap := cm) (by have := HOWN.out; rw [← hm] at this; rw [hml]; exact this))
      have HREF := hide (refRead_any m (by omega) hgood am cm S (by omega) wr hfl.out)
      have HGOOD : Hid (∀ x ∈ m, 0 ≤ x.k ∧ x.k ≤ 2) := hide (fun x hx => (hgood x hx).1)
      have HRL := hide (rdAll_len S m)
      rw [hml] at HREF HRL
      clear hm hgood HOWN
      go_wp2_with fail
      refine HREF.out.mono ?_
      rintro e w3 ⟨a1, k1, a2, k2, rfl, ho1, ho2, hb3⟩
      have HB3 := hide (below_trans HB.out hb3)
      have HF3 := hide (show FldsAt w3 w3.heap.size am m from hfl.out.size hb3 hb3.size)
      rw [lefts_flat] at ho2
      rw [← HRL.out.1] at ho1
      rw [← HRL.out.2.1] at ho2
      have HO3 := hide ho1
      have HL3 := hide ho2
      clear hb3 HREF ho1 ho2
      go_wp2_with fail
      refine (read_any S _).mono ?_
      rintro e w7 ⟨rfl, hrd, hb7⟩
      have HB7 := hide (below_trans HB3.out hb7)
      have HF7 := hide (show FldsAt w7 w3.heap.size am m from HF3.out.below hb7)
      have HO7 := hide (owns_below HO3.out hb7)
      have HL7 := hide (owns_below HL3.out hb7)
      have HRD := hide hrd
      have hp7 := hide (show w3.heap.size < w7.heap.size from heap_lt hrd.row)
      have HBW := hide (show w.heap.size ≤ w3.heap.size from HB3.out.size)
      have HT1 := hide (owns_top HO3.out)
      have HT2 := hide (owns_top HL3.out)
      generalize w3.heap.size = p at *
      clear hrd hb7 HO3 HL3
      go_wp2_with fail
      go_loopw [51, 12] (fun i en W => ∃ k : Nat, k ≤ L.length ∧ i = .int .i64 k ∧ en = .int .i64 ((stS (rdAll (m.take k) S).2.1 (rdAll (m.take k) S).2.2).size : Int) ∧ RdAt W p (rdAll (m.take k) S).2.1 (rdAll (m.take k) S).2.2 ∧ Below p w7 W) (fun i _ _ => L.length - (intOf i).toNat)
      case atStart => exact ⟨0, by omega, rfl, rfl, HRD.out, Below.refl _ _⟩
      case round =>
        obtain ⟨k, hk9, rfl, rfl, hrd, hB⟩ := hrel
        have HBK := hide hB
        by_cases hlt9 : k < L.length
        · obtain ⟨g, rfl, hg, c0, c1, c2, c3⟩ := (HF7.out.below hB).at k (by omega)
          have hxk := HGOOD.out _ (getD_mem m k (by omega))
          obtain ⟨hrl1, hrl2, -⟩ := HRL.out
          obtain ⟨hat1, hat2⟩ := rdAll_at m S k (by omega)
          obtain ⟨g1, rfl, hg1, hg1s, e1⟩ := owns_rows fc fc_length fld0 HO7.out k (by omega)
          obtain ⟨g2, rfl, hg2, hg2s, e2⟩ := owns_rows (fun x : Int => [.int .i64 x]) (fun _ => rfl) 0 HL7.out k (by omega)
          rw [hat1] at e1
          rw [hat2] at e2
          have hnx := hide (rdAll_next m S k (by omega))
          have hsz := (rdAll_len S (m.take k)).2.2
          have HRF := hide (fun W hW => read_fld p (rdAll (m.take k) S).2.1 (by omega) (rdAll (m.take k) S).2.2 (m.getD k fld0) hxk W hW)
          have hz7 := hB.size
          generalize rdAll (m.take k) S = z at *
          generalize m.getD k fld0 = x at *
          simp only [rdStep] at hnx
          generalize rdF z.2.1 z.2.2 x = r at *
          obtain ⟨y, s', bad'⟩ := r
          obtain ⟨lv, hlv⟩ : ∃ lv : Int, ((stS s' bad').size : Int) = lv := ⟨_, rfl⟩
          have HLV := hide hlv
          simp only at *
          rw [hlv] at e2
          obtain ⟨xk, xw, xn, xs⟩ := x
          obtain ⟨yk, yw, yn, ys⟩ := y
          have y0 := e1 0 (by omega)
          have y1 := e1 1 (by omega)
          have y2 := e1 2 (by omega)
          have y3 := e1 3 (by omega)
          have l0 := e2 0 (by omega)
          simp only [fc, Nat.mul_one, Nat.add_zero, List.getElem?_cons_zero, List.getElem?_cons_succ] at y0 y1 y2 y3 l0 c0 c1 c2 c3
          have hgp : g1 < p := HT1.out _ rfl
          have hgp2 : g2 < p := HT2.out _ rfl
          have hpw := heap_lt hrd.row
          have HR9 := hide (show RdAt (wr.alloc (.cells #[.int .i64 xk, .int .i64 xw, .int .u64 xn, .string xs] 49)).drew p z.2.1 z.2.2 from ⟨(hrd.more (.cells #[.int .i64 xk, .int .i64 xw, .int .u64 xn, .string xs] 49)).row⟩)
          have hne := heap_new wr (.cells #[.int .i64 xk, .int .i64 xw, .int .u64 xn, .string xs] 49)
          obtain ⟨u0, u1, u2, u3, -⟩ := block4 hne
          have HSTART : Hid ((fun W => W.cell? ⟨wr.heap.size, 0, none⟩ = some (.int .i64 xk) ∧ W.cell? ⟨wr.heap.size, 1, none⟩ = some (.int .i64 xw) ∧ W.cell? ⟨wr.heap.size, 2, none⟩ = some (.int .u64 xn) ∧ W.cell? ⟨wr.heap.size, 3, none⟩ = some (.string xs) ∧ W.cell? ⟨g1, k * 4, none⟩ = some (.int .i64 yk) ∧ W.cell? ⟨g1, k * 4 + 1, none⟩ = some (.int .i64 yw) ∧ W.cell? ⟨g1, k * 4 + 2, none⟩ = some (.int .u64 yn) ∧ W.cell? ⟨g1, k * 4 + 3, none⟩ = some (.string ys) ∧ W.cell? ⟨g2, k, none⟩ = some (.int .i64 lv) ∧ wr.heap.size < W.heap.size ∧ g1 < W.heap.size ∧ g2 < W.heap.size ∧ Below p wr W) (wr.alloc (.cells #[.int .i64 xk, .int .i64 xw, .int .u64 xn, .string xs] 49)).drew) := hide ⟨u0, u1, u2, u3, (cell_keep' (hB.trans ((Below.refl p wr).alloc (Nat.le_of_lt hpw) _)) hgp).trans y0, (cell_keep' (hB.trans ((Below.refl p wr).alloc (Nat.le_of_lt hpw) _)) hgp).trans y1, (cell_keep' (hB.trans ((Below.refl p wr).alloc (Nat.le_of_lt hpw) _)) hgp).trans y2, (cell_keep' (hB.trans ((Below.refl p wr).alloc (Nat.le_of_lt hpw) _)) hgp).trans y3, (cell_keep' (hB.trans ((Below.refl p wr).alloc (Nat.le_of_lt hpw) _)) hgp2).trans l0, by show _ < (wr.alloc _).heap.size; simp, by show _ < (wr.alloc _).heap.size; simp; omega, by show _ < (wr.alloc _).heap.size; simp; omega, ((Below.refl p wr).alloc (Nat.le_of_lt hpw) _).drew⟩
          have hgw : g < wr.heap.size := by omega
          have hneq := fun W => neq_fld yk yw yn ys W
          have hgd := fun x y a b W => guard_fld x y a b W
          simp only [fc] at HRF
          clear hrl1 hrl2 hrd hB hne hg hat1 hat2 e1 e2 hlv y0 y1 y2 y3 l0 u0 u1 u2 u3 hg1 hg2 hg1s hg2s
          go_wp2_with fail
          refine wp_region_held_drew (S := (fun W => W.cell? ⟨wr.heap.size, 0, none⟩ = some (.int .i64 xk) ∧ W.cell? ⟨wr.heap.size, 1, none⟩ = some (.int .i64 xw) ∧ W.cell? ⟨wr.heap.size, 2, none⟩ = some (.int .u64 xn) ∧ W.cell? ⟨wr.heap.size, 3, none⟩ = some (.string xs) ∧ W.cell? ⟨g1, k * 4, none⟩ = some (.int .i64 yk) ∧ W.cell? ⟨g1, k * 4 + 1, none⟩ = some (.int .i64 yw) ∧ W.cell? ⟨g1, k * 4 + 2, none⟩ = some (.int .u64 yn) ∧ W.cell? ⟨g1, k * 4 + 3, none⟩ = some (.string ys) ∧ W.cell? ⟨g2, k, none⟩ = some (.int .i64 lv) ∧ wr.heap.size < W.heap.size ∧ g1 < W.heap.size ∧ g2 < W.heap.size ∧ Below p wr W)) (by kernel_rfl) (HSTART.out) (fun hHeld => ?_)
          refine wpAnyH_take (i := 0) (oi := { dst := some 56, op := Op.move (Operand.tmp 11), type := 54, pos := "law.go:56", after := #[], guard := none }) (v := ?_) rfl (by kernel_rfl) (by kernel_rfl) (by kernel_rfl) (fun _ _ _ h => h) (Or.inl ⟨by kernel_rfl, ?_⟩) hHeld ?_
          rotate_left
          · (intro w hSw; (try dsimp only at hSw); go_simp); try with_reducible rfl
          try simp only [Act.put, List.setIfInBounds_toArray, List.set_cons_zero, List.set_cons_succ]
          refine wpAnyH_take (i := 1) (oi := { dst := some 57, op := Op.load 49 (Operand.tmp 14), type := 49, pos := "law.go:56", after := #[], guard := none }) (v := ?_) rfl (by kernel_rfl) (by kernel_rfl) (by kernel_rfl) (fun _ _ _ h => h) (Or.inl ⟨by kernel_rfl, ?_⟩) hHeld ?_
          rotate_left
          · (intro w hSw; (try dsimp only at hSw); go_simp); try with_reducible rfl
          try simp only [Act.put, List.setIfInBounds_toArray, List.set_cons_zero, List.set_cons_succ]
          refine wpAnyH_take (i := 3) (oi := { dst := some 59, op := Op.move (Operand.tmp 8), type := 46, pos := "law.go:56", after := #[], guard := none }) (v := ?_) rfl (by kernel_rfl) (by kernel_rfl) (by kernel_rfl) (fun _ _ _ h => h) (Or.inl ⟨by kernel_rfl, ?_⟩) hHeld ?_
          rotate_left
          · (intro w hSw; (try dsimp only at hSw); go_simp); try with_reducible rfl
          try simp only [Act.put, List.setIfInBounds_toArray, List.set_cons_zero, List.set_cons_succ]
          refine wpAnyH_take (i := 4) (oi := { dst := some 60, op := Op.move (Operand.tmp 13), type := 3, pos := "law.go:56", after := #[], guard := none }) (v := ?_) rfl (by kernel_rfl) (by kernel_rfl) (by kernel_rfl) (fun _ _ _ h => h) (Or.inl ⟨by kernel_rfl, ?_⟩) hHeld ?_
          rotate_left
          · (intro w hSw; (try dsimp only at hSw); go_simp); try with_reducible rfl
          try simp only [Act.put, List.setIfInBounds_toArray, List.set_cons_zero, List.set_cons_succ]
          refine wpAnyH_take (i := 5) (oi := { dst := some 61, op := Op.indexAddr 46 (Operand.tmp 59) (Operand.tmp 60), type := 0, pos := "law.go:56", after := #[{ on := 3, ground := Ground.data }, { on := 4, ground := Ground.data }], guard := none }) (v := ?_) rfl (by kernel_rfl) (by kernel_rfl) (by kernel_rfl) (fun _ _ _ h => h) (Or.inl ⟨by kernel_rfl, ?_⟩) hHeld ?_
          rotate_left
          · (intro w hSw; (try dsimp only at hSw); go_simp); try with_reducible rfl
          try simp only [Act.put, List.setIfInBounds_toArray, List.set_cons_zero, List.set_cons_succ]
          refine wpAnyH_take (i := 6) (oi := { dst := some 62, op := Op.load 49 (Operand.tmp 61), type := 49, pos := "law.go:56", after := #[{ on := 5, ground := Ground.data }], guard := none }) (v := ?_) rfl (by kernel_rfl) (by kernel_rfl) (by kernel_rfl) (fun _ _ _ h => h) (Or.inl ⟨by kernel_rfl, ?_⟩) hHeld ?_
          rotate_left
          · (intro w hSw; (try dsimp only at hSw); go_simp); try with_reducible rfl
          try simp only [Act.put, List.setIfInBounds_toArray, List.set_cons_zero, List.set_cons_succ]
          refine wpAnyH_ready (rs := [2]) (by kernel_rfl) (by simp) ?_
          refine AllReadyH.cons (o := { dst := some 58, op := Op.call { callee := Callee.value (Operand.func 25), args := #[Operand.tmp 56, Operand.tmp 57], argTypes := #[54, 49] }, type := 49, pos := "law.go:56", after := #[{ on := 0, ground := Ground.data }, { on := 1, ground := Ground.data }], guard := none }) rfl (fun K hK => ?_) AllReadyH.nil
          have hOld := hide hHeld
          clear hHeld
          go_simp
          refine (HRF.out _ HR9.out).mono ?_
          rintro e w9 ⟨rfl, hr9, ho9⟩
          have HR10 := hide hr9
          have HLL := hide (left_any p _ _ w9 hr9)
          rw [← stS_ite] at HLL
          rw [HLV.out] at HLL
          have hS9 := hOld.out
          obtain ⟨u0, u1, u2, u3, y0, y1, y2, y3, l0, z0, z1, z2, zB⟩ := hS9
          have HS9 := hide (show (fun W => W.cell? ⟨wr.heap.size, 0, none⟩ = some (.int .i64 xk) ∧ W.cell? ⟨wr.heap.size, 1, none⟩ = some (.int .i64 xw) ∧ W.cell? ⟨wr.heap.size, 2, none⟩ = some (.int .u64 xn) ∧ W.cell? ⟨wr.heap.size, 3, none⟩ = some (.string xs) ∧ W.cell? ⟨g1, k * 4, none⟩ = some (.int .i64 yk) ∧ W.cell? ⟨g1, k * 4 + 1, none⟩ = some (.int .i64 yw) ∧ W.cell? ⟨g1, k * 4 + 2, none⟩ = some (.int .u64 yn) ∧ W.cell? ⟨g1, k * 4 + 3, none⟩ = some (.string ys) ∧ W.cell? ⟨g2, k, none⟩ = some (.int .i64 lv) ∧ wr.heap.size < W.heap.size ∧ g1 < W.heap.size ∧ g2 < W.heap.size ∧ Below p wr W) w9 from ⟨(only_cell ho9 z0 (by omega)).trans u0, (only_cell ho9 z0 (by omega)).trans u1, (only_cell ho9 z0 (by omega)).trans u2, (only_cell ho9 z0 (by omega)).trans u3, (only_cell ho9 z1 (by omega)).trans y0, (only_cell ho9 z1 (by omega)).trans y1, (only_cell ho9 z1 (by omega)).trans y2, (only_cell ho9 z1 (by omega)).trans y3, (only_cell ho9 z2 (by omega)).trans l0, Nat.lt_of_lt_of_le z0 ho9.size, Nat.lt_of_lt_of_le z1 ho9.size, Nat.lt_of_lt_of_le z2 ho9.size, zB.trans (ho9.from (by omega))⟩)
          clear hr9 ho9 u0 u1 u2 u3 y0 y1 y2 y3 l0 z0 z1 z2 zB
          (try go_wp2_with fail)
          refine hK.out _ _ (HS9.out) (fun hHeld => ?_)
          clear hK K hOld
          try simp only [Act.put, List.setIfInBounds_toArray, List.set_cons_zero, List.set_cons_succ]
          refine wpAnyH_take (i := 7) (oi := { dst := some 63, op := Op.binOp BinOp.neq 49 (Operand.tmp 58) (Operand.tmp 62) 49, type := 4, pos := "law.go:56", after := #[{ on := 2, ground := Ground.data }, { on := 6, ground := Ground.data }], guard := none }) (v := ?_) rfl (by kernel_rfl) (by kernel_rfl) (by kernel_rfl) (fun _ _ _ h => h) (Or.inl ⟨by kernel_rfl, ?_⟩) hHeld ?_
          rotate_left
          · (intro w hSw; (try dsimp only at hSw); go_simp); try with_reducible rfl
          try simp only [Act.put, List.setIfInBounds_toArray, List.set_cons_zero, List.set_cons_succ]
          refine wpAnyH_take (i := 8) (oi := { dst := some 64, op := Op.move (Operand.tmp 63), type := 4, pos := "law.go:56", after := #[{ on := 7, ground := Ground.data }, { on := 2, ground := Ground.chain }], guard := none }) (v := ?_) rfl (by kernel_rfl) (by kernel_rfl) (by kernel_rfl) (fun _ _ _ h => h) (Or.inl ⟨by kernel_rfl, ?_⟩) hHeld ?_
          rotate_left
          · (intro w hSw; (try dsimp only at hSw); go_simp); try with_reducible rfl
          try simp only [Act.put, List.setIfInBounds_toArray, List.set_cons_zero, List.set_cons_succ]
          refine wpAnyH_take (i := 9) (oi := { dst := some 65, op := Op.move (Operand.tmp 11), type := 54, pos := "law.go:56", after := #[{ on := 8, ground := Ground.guard }], guard := some (8, false) }) (v := ?_) rfl (by kernel_rfl) (by kernel_rfl) (by kernel_rfl) (fun _ _ _ h => h) (Or.inl ⟨by kernel_rfl, ?_⟩) hHeld ?_
          rotate_left
          · (intro w hSw; (try dsimp only at hSw); go_simp); try with_reducible rfl
          try simp only [Act.put, List.setIfInBounds_toArray, List.set_cons_zero, List.set_cons_succ]
          refine wpAnyH_take (i := 11) (oi := { dst := some 67, op := Op.move (Operand.tmp 9), type := 51, pos := "law.go:56", after := #[{ on := 8, ground := Ground.guard }], guard := some (8, false) }) (v := ?_) rfl (by kernel_rfl) (by kernel_rfl) (by kernel_rfl) (fun _ _ _ h => h) (Or.inl ⟨by kernel_rfl, ?_⟩) hHeld ?_
          rotate_left
          · (intro w hSw; (try dsimp only at hSw); go_simp); try with_reducible rfl
          try simp only [Act.put, List.setIfInBounds_toArray, List.set_cons_zero, List.set_cons_succ]
          refine wpAnyH_take (i := 12) (oi := { dst := some 68, op := Op.move (Operand.tmp 13), type := 3, pos := "law.go:56", after := #[{ on := 8, ground := Ground.guard }], guard := some (8, false) }) (v := ?_) rfl (by kernel_rfl) (by kernel_rfl) (by kernel_rfl) (fun _ _ _ h => h) (Or.inl ⟨by kernel_rfl, ?_⟩) hHeld ?_
          rotate_left
          · (intro w hSw; (try dsimp only at hSw); go_simp); try with_reducible rfl
          try simp only [Act.put, List.setIfInBounds_toArray, List.set_cons_zero, List.set_cons_succ]
          refine wpAnyH_take (i := 13) (oi := { dst := some 69, op := Op.indexAddr 51 (Operand.tmp 67) (Operand.tmp 68), type := 0, pos := "law.go:56", after := #[{ on := 11, ground := Ground.data }, { on := 12, ground := Ground.data }, { on := 8, ground := Ground.guard }], guard := some (8, false) }) (v := ?_) rfl (by kernel_rfl) (by kernel_rfl) (by kernel_rfl) (fun _ _ _ h => h) (Or.inl ⟨by kernel_rfl, ?_⟩) hHeld ?_
          rotate_left
          · (intro w hSw; (try dsimp only at hSw); go_simp); try with_reducible rfl
          try simp only [Act.put, List.setIfInBounds_toArray, List.set_cons_zero, List.set_cons_succ]
          refine wpAnyH_take (i := 14) (oi := { dst := some 70, op := Op.load 3 (Operand.tmp 69), type := 3, pos := "law.go:56", after := #[{ on := 13, ground := Ground.data }, { on := 8, ground := Ground.guard }], guard := some (8, false) }) (v := ?_) rfl (by kernel_rfl) (by kernel_rfl) (by kernel_rfl) (fun _ _ _ h => h) (Or.inl ⟨by kernel_rfl, ?_⟩) hHeld ?_
          rotate_left
          · (intro w hSw; (try dsimp only at hSw); go_simp); try with_reducible rfl
          try simp only [Act.put, List.setIfInBounds_toArray, List.set_cons_zero, List.set_cons_succ]
          refine wpAnyH_ready (rs := [10]) (by kernel_rfl) (by simp) ?_
          refine AllReadyH.cons (o := { dst := some 66, op := Op.call { callee := Callee.value (Operand.func 26), args := #[Operand.tmp 65], argTypes := #[54] }, type := 3, pos := "law.go:56", after := #[{ on := 9, ground := Ground.data }, { on := 8, ground := Ground.chain }, { on := 8, ground := Ground.guard }], guard := some (8, false) }) rfl (fun K hK => ?_) AllReadyH.nil
          have hOld := hide hHeld
          clear hHeld
          go_simp
          refine HLL.out.mono ?_
          rintro e w11 ⟨rfl, rfl⟩
          (try go_wp2_with fail)
          refine hK.out _ _ (HS9.out) (fun hHeld => ?_)
          clear hK K hOld
          try simp only [Act.put, List.setIfInBounds_toArray, List.set_cons_zero, List.set_cons_succ]
          refine wpAnyH_take (i := 15) (oi := { dst := some 71, op := Op.binOp BinOp.neq 3 (Operand.tmp 66) (Operand.tmp 70) 3, type := 4, pos := "law.go:56", after := #[{ on := 10, ground := Ground.data }, { on := 14, ground := Ground.data }, { on := 8, ground := Ground.guard }], guard := some (8, false) }) (v := ?_) rfl (by kernel_rfl) (by kernel_rfl) (by kernel_rfl) (fun _ _ _ h => h) (Or.inl ⟨by kernel_rfl, ?_⟩) hHeld ?_
          rotate_left
          · (intro w hSw; (try dsimp only at hSw); go_simp); try with_reducible rfl
          try simp only [Act.put, List.setIfInBounds_toArray, List.set_cons_zero, List.set_cons_succ]
          refine wpAnyH_take (i := 16) (oi := { dst := some 72, op := Op.pick (Operand.tmp 64) (Operand.const (Value.bool true)) (Operand.tmp 71), type := 4, pos := "law.go:56", after := #[{ on := 8, ground := Ground.data }, { on := 15, ground := Ground.data }], guard := none }) (v := ?_) rfl (by kernel_rfl) (by kernel_rfl) (by kernel_rfl) (fun _ _ _ h => h) (Or.inl ⟨by kernel_rfl, ?_⟩) hHeld ?_
          rotate_left
          · (intro w hSw; (try dsimp only at hSw); go_simp); try with_reducible rfl
          try simp only [Act.put, List.setIfInBounds_toArray, List.set_cons_zero, List.set_cons_succ]
          refine wpAnyH_done (by kernel_rfl) ?_ _
          obtain ⟨u0, u1, u2, u3, y0, y1, y2, y3, l0, z0, z1, z2, zB⟩ := HS9.out
          clear HR9 HSTART HRF HLL
          go_wp2_with fail
          go_roundw
          case rel => exact ⟨k + 1, by omega, by go_num, by rw [hnx.out]; simp only; rw [HLV.out], by rw [hnx.out]; exact HR10.out, HBK.out.trans zB⟩
          case measure => simp [intOf]; omega
        · obtain rfl : k = L.length := by omega
          rw [show m.take L.length = m by rw [← hml, List.take_length]] at hrd ⊢
          generalize (rdAll m S).2 = z at *
          obtain ⟨s', bad⟩ := z
          simp only at *
          have hle := end_any p s' bad wr hrd
          have hwr := wrong_any p s' bad wr hrd
          rw [stS_ite]
          have HBE := hide (HB7.out.trans (hB.mono HBW.out))
          clear hB HBK HF7 HO7 HL7
          cases bad
          · rw [if_neg (by simp)]
            by_cases h0 : s'.size = 0
            · rw [show endE s' false = 0 by unfold endE; rw [if_neg (by simp [h0])]] at hle
              rw [h0]
              have HRD9 := hide hrd
              clear hle hwr hrd
              go_wp2_with fail
              refine (wakes4 _).mono ?_
              rintro e w8 ⟨rfl, hb8⟩
              have HBE8 := hide (below_trans HBE.out hb8)
              have HEN := hide (end_any p _ _ _ (HRD9.out.below hb8))
              have HWR := hide (wrong_any p _ _ _ (HRD9.out.below hb8))
              rw [show endE s' false = 0 by unfold endE; rw [if_neg (by simp [h0])]] at HEN
              clear hb8
              go_wp2_with fail
              refine HEN.out.mono ?_
              rintro e w9 ⟨rfl, rfl⟩
              go_wp2_with fail
              refine HWR.out.mono ?_
              rintro e w10 ⟨rfl, rfl⟩
              go_wp2_with fail
              refine (wrong_nil _).mono ?_
              rintro e w11 ⟨rfl, rfl⟩
              go_wp2_with fail
              refine (number_nil _ _).mono ?_
              rintro e w12 ⟨rfl, hb12⟩
              have HB12 := hide (below_trans HBE8.out hb12)
              clear hb12
              go_wp2_with fail
              refine (signed_nil _).mono ?_
              rintro e w13 ⟨rfl, hb13⟩
              have HB13 := hide (below_trans HB12.out hb13)
              clear hb13
              go_wp2_with fail
              refine (text_nil _).mono ?_
              rintro e w14 ⟨rfl, rfl⟩
              go_wp2_with fail
              refine (left_nil _).mono ?_
              rintro e w15 ⟨rfl, rfl⟩
              go_wp2_with fail
              refine (end_nil _).mono ?_
              rintro e w16 ⟨rfl, rfl⟩
              go_wp2
              go_ret
              exact ⟨rfl, HB13.out⟩
            · rw [show endE s' false = 4 by unfold endE; rw [if_pos (.inr h0)]] at hle
              have hpos : (0 : Int) < (s'.size : Int) := by omega
              have HRD9 := hide hrd
              clear hle hwr hrd
              go_wp2_with fail
              refine (wakes4 _).mono ?_
              rintro e w8 ⟨rfl, hb8⟩
              have HBE8 := hide (below_trans HBE.out hb8)
              have HEN := hide (end_any p _ _ _ (HRD9.out.below hb8))
              have HWR := hide (wrong_any p _ _ _ (HRD9.out.below hb8))
              rw [show endE s' false = 4 by unfold endE; rw [if_pos (.inr h0)]] at HEN
              clear hb8
              go_wp2_with fail
              refine HEN.out.mono ?_
              rintro e w9 ⟨rfl, rfl⟩
              go_wp2_with fail
              refine HWR.out.mono ?_
              rintro e w10 ⟨rfl, rfl⟩
              go_wp2_with fail
              refine (wrong_nil _).mono ?_
              rintro e w11 ⟨rfl, rfl⟩
              go_wp2_with fail
              refine (number_nil _ _).mono ?_
              rintro e w12 ⟨rfl, hb12⟩
              have HB12 := hide (below_trans HBE8.out hb12)
              clear hb12
              go_wp2_with fail
              refine (signed_nil _).mono ?_
              rintro e w13 ⟨rfl, hb13⟩
              have HB13 := hide (below_trans HB12.out hb13)
              clear hb13
              go_wp2_with fail
              refine (text_nil _).mono ?_
              rintro e w14 ⟨rfl, rfl⟩
              go_wp2_with fail
              refine (left_nil _).mono ?_
              rintro e w15 ⟨rfl, rfl⟩
              go_wp2_with fail
              refine (end_nil _).mono ?_
              rintro e w16 ⟨rfl, rfl⟩
              go_wp2
              go_ret
              exact ⟨rfl, HB13.out⟩
          · rw [show endE s' true = 4 by unfold endE; rw [if_pos (.inl rfl)]] at hle
            rw [if_pos rfl]
            have HRD9 := hide hrd
            clear hle hwr hrd
            go_wp2_with fail
            refine (wakes4 _).mono ?_
            rintro e w8 ⟨rfl, hb8⟩
            have HBE8 := hide (below_trans HBE.out hb8)
            have HEN := hide (end_any p _ _ _ (HRD9.out.below hb8))
            have HWR := hide (wrong_any p _ _ _ (HRD9.out.below hb8))
            rw [show endE s' true = 4 by unfold endE; rw [if_pos (.inl rfl)]] at HEN
            clear hb8
            go_wp2_with fail
            refine HEN.out.mono ?_
            rintro e w9 ⟨rfl, rfl⟩
            go_wp2_with fail
            refine HWR.out.mono ?_
            rintro e w10 ⟨rfl, rfl⟩
            go_wp2_with fail
            refine (wrong_nil _).mono ?_
            rintro e w11 ⟨rfl, rfl⟩
            go_wp2_with fail
            refine (number_nil _ _).mono ?_
            rintro e w12 ⟨rfl, hb12⟩
            have HB12 := hide (below_trans HBE8.out hb12)
            clear hb12
            go_wp2_with fail
            refine (signed_nil _).mono ?_
            rintro e w13 ⟨rfl, hb13⟩
            have HB13 := hide (below_trans HB12.out hb13)
            clear hb13
            go_wp2_with fail
            refine (text_nil _).mono ?_
            rintro e w14 ⟨rfl, rfl⟩
            go_wp2_with fail
            refine (left_nil _).mono ?_
            rintro e w15 ⟨rfl, rfl⟩
            go_wp2_with fail
            refine (end_nil _).mono ?_
            rintro e w16 ⟨rfl, rfl⟩
            go_wp2
            go_ret
            exact ⟨rfl, HB13.out⟩
theorem curReads_walk (s : ByteArray) (hs64 : s.size ≤ 9223372036854775807) (v : Value) (w : World) (hv : FieldsIn w v) :
    Calls Try.prog 8 #[.string s, v] w fun e w' => e = .returned (.bool true) ∧ Below w.heap.size w w' := by
  obtain ⟨L, a, cap, h⟩ := fieldsIn_at hv
  by_cases hbig : 30 < L.length
  · by_cases h4 : 400 < s.size
    · exact curReads_bb s hs64 h4 v w L a cap h hbig
    · exact curReads_bs s hs64 (by omega) v w L a cap h hbig
  · by_cases h4 : 400 < s.size
    · exact curReads_sb s hs64 h4 v w L a cap h (by omega)
    · exact curReads_ss s hs64 (by omega) v w L a cap h (by omega)

set_option maxRecDepth 100000 in
theorem curReads_lifted (os : Os) (started : os.Started) (H : Type) (enc : TypeId × Value → H) :
    ReturnsInHanded {} Try.checked os 8 .any (Rows.curReadsSpec.pre6 enc Try.prog Try.f8 Rows.curReadsRow.domain false) (Rows.curReadsSpec.post enc Try.prog Try.f8 false true false false) := by
  refine returnsInHanded_of_change (C := Try.checked) own started (by kernel_rfl) Try.func8
    (ChangeSpec.witness6 (enc := enc) (C := Try.checked) false ⟨#[], #[.string ⟨#[]⟩, .slice none 0 0], []⟩ 8 (by kernel_rfl) (by kernel_rfl) (by kernel_rfl) (by kernel_rfl)) ?_
  intro W base args ds gs before hval0 hW _ _
  have hval : ∀ (j : Nat) t v, Try.f8.params[j]? = some t → args[j]? = some v → Value.okWide Try.prog W .any base t v := hval0
  have hW' := hW
  obtain ⟨p, q, hA0, hV, rfl, hfz, hnd⟩ := hW
  have hA : DataW.TrodAll enc Try.prog W 0 (fun _ => true) true Try.f8.params.toList args.toList ds p := hA0
  rw [Try.params8] at hA hval
  obtain ⟨v0, vs0, d0, ds0, p0, q0, hargs, rfl, rfl, h0, r0⟩ := trodAll_cons hA
  obtain ⟨v1, vs1, d1, ds1, p1, q1, rfl, rfl, rfl, h1, r1⟩ := trodAll_cons r0
  obtain ⟨rfl, rfl, rfl⟩ := trodAll_nil r1
  obtain rfl : args = #[v0, v1] := by cases args; simp_all
  obtain ⟨rfl, rfl⟩ := trodVars_none hV
  obtain ⟨s, rfl, rfl, rfl, w0⟩ := ChangeMaps.open_string Try.underlying9 (hval 0 9 v0 rfl rfl) h0
  have z0 : s.size ≤ 9223372036854775807 := w0
  have z1 := open_fields (hval 1 45 v1 rfl rfl) h1
  clear hA0 hval0
  refine (curReads_walk s z0 v1 W z1).mono fun e W' ⟨he, hb⟩ => ?_
  subst he
  exact ⟨_, rfl, post_law laidOut (of_decide_eq_true (by kernel_rfl)) rfl rfl Try.underlying4 hW' ⟨rfl, rfl, rfl⟩ hb⟩

/-- THE STATEMENT -/
theorem curReads_holds : Rows.CurReadsSaid :=
  OpenClaim.holds_of_wide 8 Try.f8 rfl rfl rfl rfl rfl rfl rfl ⟨rfl, rfl, rfl, rfl, rfl⟩ rfl rfl rfl rfl rfl (by kernel_rfl) Try.func8 (by kernel_rfl)
    (of_decide_eq_true (by kernel_rfl)) (by unfold Func.isWrapper; first | (rw [if_pos (by decide +kernel)]; kernel_rfl) | (rw [if_neg (by decide +kernel)]; exact ⟨rfl, rfl⟩))
    (fun os started H enc _ => curReads_lifted os started H enc)

end Go.Proofs.Ytmhppjgclaahnaa
