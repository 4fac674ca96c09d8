/-
  Layer 4: CurWrites returns true at every input.
-/
import Derived.Test.YtmhppjgclaahnaaCur6
import Derived.Test.YtmhppjgclaahnaaLaw4
import Derived.Laws.AppendOwn
namespace Go.Proofs.Ytmhppjgclaahnaa
set_option linter.unusedSimpArgs false
set_option linter.unusedVariables false
open Go.RowKit Go.WideShapes Go.ChangeShapes Go.ChangeAt

/-- fields that came in -/
def FieldsIn (w : World) (v : Value) : Prop := ∃ L : List Fld, RowsAt w v 4 (L.map fc) ∧ ∀ x ∈ L, FldOk x
theorem fc_of {x : List Value} (hl : x.length = 4) (h : ∀ (j : Nat) c u, [TypeDesc.int .i64, .int .i64, .int .u64, .string][j]? = some c → x[j]? = some u → CellIs c u) : ∃ f : Fld, x = fc f ∧ FldOk f := by
  match x, hl with
  | [c0, c1, c2, c3], _ =>
    obtain ⟨k, rfl, hk⟩ := h 0 _ _ rfl rfl
    obtain ⟨wd, rfl, hw⟩ := h 1 _ _ rfl rfl
    obtain ⟨n, rfl, hn⟩ := h 2 _ _ rfl rfl
    obtain ⟨s, rfl, hs⟩ := h 3 _ _ rfl rfl
    exact ⟨⟨k, wd, n, s⟩, rfl, wf_i64 hk, wf_i64 hw, wf_u64 hn, hs⟩
theorem open_fields {H : Type} {enc : TypeId × Value → H} {w : World} {base : Nat} {sp : Nat → Bool} {held : Bool} {r : Reach} {b0 : Nat} {v : Value} {d : DataW H} {ps : List MemPlace}
    (hv : Value.okWide Try.prog w r b0 45 v) (h : DataW.Trod enc Try.prog w base sp held 45 v d ps) : FieldsIn w v := by
  obtain ⟨L, hL, hx⟩ := open_rows [.int .i64, .int .i64, .int .u64, .string] Try.underlying45 Try.underlying48 (by kernel_rfl) (by kernel_rfl) (by decide) rfl (fun j hj => by
    have : j = 0 ∨ j = 1 ∨ j = 2 ∨ j = 3 := by simp at hj; omega
    rcases this with rfl | rfl | rfl | rfl <;> rfl) hv h
  obtain ⟨L', rfl, hp⟩ := rows_typed fc FldOk L (fun x hxL => fc_of (hx x hxL).1 (hx x hxL).2)
  exact ⟨L', hL, hp⟩
theorem fieldsIn_at {w : World} {v : Value} (h : FieldsIn w v) : ∃ (L : List Fld) (a : Option Addr) (cap : Nat), v = .slice a L.length cap ∧ L.length ≤ cap ∧ cap ≤ 9223372036854775807 ∧ (∀ x ∈ L, FldOk x) ∧
    ∀ i, i < L.length → ∃ b off, a = some ⟨b, off, none⟩ ∧ b < w.heap.size ∧ w.cell? ⟨b, off + (i * 4), none⟩ = some (.int .i64 (L.getD i fld0).k) ∧ w.cell? ⟨b, off + (i * 4 + 1), none⟩ = some (.int .i64 (L.getD i fld0).w) ∧ w.cell? ⟨b, off + (i * 4 + 2), none⟩ = some (.int .u64 (L.getD i fld0).n) ∧ w.cell? ⟨b, off + (i * 4 + 3), none⟩ = some (.string (L.getD i fld0).s) := by
  obtain ⟨L, ⟨a, cap, rfl, hm, hc, hcm, hi⟩, hok⟩ := h
  rw [List.length_map] at *
  unfold maxLen at *
  refine ⟨L, a, cap, rfl, hc, by omega, hok, fun i hil => ?_⟩
  obtain ⟨b, off, h1, h2, h3⟩ := hi i hil
  rw [getD_map fc L fld0 i hil] at h3
  exact ⟨b, off, h1, h2, h3 0 (by omega), h3 1 (by omega), h3 2 (by omega), h3 3 (by omega)⟩
theorem map_take (L : List Fld) (k : Nat) (h : k < L.length) : ((L.take (k + 1)).map ofF).flatMap fc = ((L.take k).map ofF).flatMap fc ++ fc (ofF (L.getD k fld0)) := by
  rw [take_getD L k h, List.map_append, List.flatMap_append]
  simp
theorem flds_of_owns {w : World} {B : Nat} {a : Option Addr} {cap : Nat} {m : List Fld} (h : w.ownsRow B 49 4 (.slice a m.length cap) m.length (m.flatMap fc)) : FldsAt w w.heap.size a m := fun i hi => by
  obtain ⟨g, h1, h2, h3, h4⟩ := owns_rows fc fc_length fld0 h i hi
  exact ⟨g, h1, h3, h4⟩
theorem FldsAt.size {w w' : World} {B B' : Nat} {a : Option Addr} {m : List Fld} (h : FldsAt w B a m) (hb : Below B w w') (hB : B ≤ B') : FldsAt w' B' a m := fun i hi => by
  obtain ⟨g, h1, h2, h3⟩ := h.below hb i hi
  exact ⟨g, h1, by omega, h3⟩
theorem new_row (w : World) (y : Fld) : ∀ (j : Nat) (u : Value), [Value.int .i64 y.k, .int .i64 y.w, .int .u64 y.n, .string y.s][j]? = some u → (w.alloc (.cells #[.int .i64 y.k, .int .i64 y.w, .int .u64 y.n, .string y.s] 49)).cell? ((⟨w.heap.size, 0, none⟩ : Addr).add j) = some u := by
  intro j u h
  have e : (⟨w.heap.size, 0, none⟩ : Addr).add j = ⟨w.heap.size, j, none⟩ := by
    rw [Go.WideShapes.add_plain, Nat.zero_add]
  rw [e, World.cell?_alloc_new]
  simpa using h
set_option maxRecDepth 100000 in
set_option maxHeartbeats 2000000 in
theorem curWrites_walk (v : Value) (w : World) (hv : FieldsIn w v) :
    Calls Try.prog 9 #[v] w fun e w' => e = .returned (.bool true) ∧ Below w.heap.size w w' := by
  obtain ⟨L, a, cap, rfl, hc, hcm, hok, hat⟩ := fieldsIn_at hv
  have HOK := hide hok
  have HAT := hide hat
  clear hok hat hv
  by_cases hbig : 30 < L.length
  · go_enter Try.func9, Try.ntmps9
    go_wp2_with fail
    obtain ⟨i0, hi, hz0, hz1, hz2⟩ := info_parts (show (Try.prog.info? 49).map (fun i => (i.zero, i.size, i.bytes)) = some (some (.agg #[.int .i64 0, .int .i64 0, .int .u64 0, .string ⟨#[]⟩]), 4, 40) by kernel_rfl)
    have HI := hide hi
    have HZ0 := hide hz0
    have HZ1 := hide hz1
    have HZ2 := hide hz2
    clear hi hz0 hz1 hz2
    go_loopw [3, 18] (fun v i W => ∃ (k : Nat) (am : Option Addr) (cm : Nat), k ≤ 30 ∧ i = .int .i64 k ∧ v = .slice am k cm ∧ W.ownsRow w.heap.size 49 4 (.slice am k cm) k (((L.take k).map ofF).flatMap fc) ∧ Below w.heap.size w W) (fun _ i _ => 30 - (intOf i).toNat)
    case atStart => exact ⟨0, none, 0, by omega, rfl, rfl, World.ownsRow_nil _ _ _ _, Below.refl _ _⟩
    case round =>
      obtain ⟨k, am, cm, hk, rfl, rfl, hown, hB⟩ := hrel
      have HOWN := hide hown
      have HB := hide hB
      by_cases hlt : k < 30
      · obtain ⟨b, off, rfl, hb, c0, c1, c2, c3⟩ := HAT.out k (by omega)
        have d0 : wr.cell? ⟨b, off + k * 4, none⟩ = some (.int .i64 (L.getD k fld0).k) := by rw [hB.cell (p := ⟨b, off + k * 4, none⟩) hb]; exact c0
        have d1 : wr.cell? ⟨b, off + k * 4 + 1, none⟩ = some (.int .i64 (L.getD k fld0).w) := by rw [hB.cell (p := ⟨b, off + k * 4 + 1, none⟩) hb]; exact c1
        have d2 : wr.cell? ⟨b, off + k * 4 + 2, none⟩ = some (.int .u64 (L.getD k fld0).n) := by rw [hB.cell (p := ⟨b, off + k * 4 + 2, none⟩) hb]; exact c2
        have d3 : wr.cell? ⟨b, off + k * 4 + 3, none⟩ = some (.string (L.getD k fld0).s) := by rw [hB.cell (p := ⟨b, off + k * 4 + 3, none⟩) hb]; exact c3
        have hox := hide (HOK.out _ (getD_mem L k (by omega)))
        have hnx := hide (map_take L k (by omega))
        have hbw : b < wr.heap.size := Nat.lt_of_lt_of_le hb hB.size
        generalize L.getD k fld0 = x at *
        have HOF := hide (fun W => of_any x hox.out W)
        obtain ⟨xk, xw, xn, xs⟩ := x
        generalize hyy : ofF ⟨xk, xw, xn, xs⟩ = y at *
        obtain ⟨yk, yw, yn, ys⟩ := y
        simp only at d0 d1 d2 d3
        simp only [fc] at HOF
        have HA := hide (HB.out.alloc HB.out.size (.cells #[.int .i64 xk, .int .i64 xw, .int .u64 xn, .string xs] 48))
        have HOA := hide (HOWN.out.alloc (.cells #[.int .i64 xk, .int .i64 xw, .int .u64 xn, .string xs] 48))
        generalize ((L.take k).map ofF).flatMap fc = M at *
        clear hB c0 c1 c2 c3 hb hown hyy
        go_wp2_with fail
        refine (HOF.out _).mono ?_
        rintro e w2 ⟨rfl, hb2⟩
        have HA2 := hide (HA.out.trans (hb2.mono HA.out.size))
        have HO2 := hide (owns_below HOA.out hb2)
        have HA3 := hide (HA2.out.alloc HA2.out.size (.cells #[.int .i64 yk, .int .i64 yw, .int .u64 yn, .string ys] 49))
        have HO3 := hide (HO2.out.alloc (.cells #[.int .i64 yk, .int .i64 yw, .int .u64 yn, .string ys] 49))
        have HNEW := hide (new_row w2 ⟨yk, yw, yn, ys⟩)
        have HONE := hide (show ∀ u ∈ [Value.int .i64 yk, .int .i64 yw, .int .u64 yn, .string ys], u.oneCell' = true by intro u hu; simp at hu; rcases hu with rfl | rfl | rfl | rfl <;> rfl)
        have HGE := hide (fun j (h : (Value.slice am k cm).ownBlock = some j) => (HO3.out.lt j h).1)
        clear hb2 hbw d0 d1 d2 d3
        go_wp2_with (at_builtin; refine wpList_append_own _ rfl _ _ 46 rfl w.heap.size 49 i0 (.agg #[.int .i64 0, .int .i64 0, .int .u64 0, .string ⟨#[]⟩]) 4 40 Try.underlying46 HI.out HZ0.out HZ1.out HZ2.out rfl (by decide) (.slice am k cm) k M rfl HO3.out ⟨w2.heap.size, 0, none⟩ 1 1 [.int .i64 yk, .int .i64 yw, .int .u64 yn, .string ys] rfl rfl HNEW.out HONE.out (by unfold maxLen; omega) (by omega) HA3.out.size ?_; intro v' w' ho hgr hnil; obtain ⟨a2, c2, rfl⟩ := owns_slice_n ho; clear hnil; have HN := hide ho; have HBN := hide (HA3.out.grown hgr HA3.out.size HGE.out); clear ho hgr)
        go_roundw
        case rel => exact ⟨k + 1, a2, c2, by omega, by go_num, rfl, by rw [hnx.out]; exact HN.out, HBN.out⟩
        case measure => simp [intOf]; omega
      · obtain rfl : k = 30 := by omega
        clear hB hown
        obtain ⟨m, hm, hml⟩ : ∃ m : List Fld, m = (L.take 30).map ofF ∧ m.length = 30 := ⟨_, rfl, by simp <;> omega⟩
        have hgood : ∀ x ∈ m, FldGood x := by
          intro x hx
          rw [hm] at hx
          obtain ⟨x', hx', rfl⟩ := List.mem_map.1 hx
          exact ofF_good (HOK.out x' (List.mem_of_mem_take hx'))
        have hfl := hide (show FldsAt wr wr.heap.size am m from flds_of_owns (cap := cm) (by have := HOWN.out; rw [← hm] at this; rw [hml]; exact this))
        have HREF := hide (refWrite_any m (by omega) hgood am cm wr hfl.out)
        have HGOOD := hide hgood
        have HS := hide (show refS m = if (wrFs m).2 = true then ⟨#[]⟩ else bs (wrFs m).1 from rfl)
        rw [hml] at HREF
        clear hm hgood HOWN
        go_wp2_with fail
        refine HREF.out.mono ?_
        rintro e w3 ⟨rfl, hb3⟩
        have HB3 := hide (below_trans HB.out hb3)
        have HF3 := hide (show FldsAt w3 w3.heap.size am m from hfl.out.size hb3 hb3.size)
        have HW3 := hide (wrAt_new w3)
        have HF3b := hide (show FldsAt (w3.alloc (.cells #[.slice none 0 0, .bool false] 70)) w3.heap.size am m from HF3.out.below ((Below.refl _ _).alloc (Nat.le_refl _) _))
        have HB3b := hide (HB3.out.alloc HB3.out.size (.cells #[.slice none 0 0, .bool false] 70))
        have HWR := hide (write_any w3.heap.size w3.heap.size m (by omega) HGOOD.out am cm _ HF3b.out HW3.out (Nat.le_refl _))
        rw [hml] at HWR
        clear hb3 HREF
        go_wp2_with fail
        refine HWR.out.mono ?_
        rintro e w4 ⟨rfl, hw4, hb4⟩
        have HB4 := hide (HB3b.out.trans (hb4.mono HB3.out.size))
        have HBY := hide (wbytes_any w3.heap.size w3.heap.size _ _ _ hw4)
        have HF4 := hide (show FldsAt w4 w4.heap.size am m from HF3b.out.size hb4 (by have := hb4.size; simp at this; omega))
        have HWN := hide (write_nil m (by omega) HGOOD.out am cm w4 HF4.out)
        rw [hml] at HWN
        generalize refS m = RS at *
        generalize wrFs m = WF at *
        obtain ⟨l, bad⟩ := WF
        simp only at *
        clear hw4 hb4 HWR
        cases bad
        · have hrs : RS = bs l := by have := HS.out; rwa [if_neg (by simp)] at this
          subst hrs
          clear HS
          have hby := HBY.out
          rw [if_neg (by simp), if_neg (by simp)] at hby
          have HBZ := hide hby
          clear hby HBY
          go_wp2_with fail
          refine HBZ.out.mono ?_
          rintro e w5 ⟨rfl, rfl⟩
          go_wp2_with fail
          refine HWN.out.mono ?_
          rintro e w6 ⟨rfl, hb6⟩
          have HB6 := hide (below_trans HB4.out hb6)
          clear hb6 HWN HBZ
          go_wp2_with fail
          refine (wbytes_nil _).mono ?_
          rintro e w7 ⟨rfl, rfl⟩
          go_wp2_with fail
          refine (wakes4 _).mono ?_
          rintro e w8 ⟨rfl, hb8⟩
          go_wp2
          go_ret
          exact ⟨rfl, below_trans HB6.out hb8⟩
        · have hrs : RS = ⟨#[]⟩ := by have := HS.out; rwa [if_pos rfl] at this
          subst hrs
          clear HS
          have hby := HBY.out
          rw [if_pos rfl, if_pos rfl] at hby
          have HBZ := hide hby
          clear hby HBY
          go_wp2_with fail
          refine HBZ.out.mono ?_
          rintro e w5 ⟨rfl, rfl⟩
          go_wp2_with fail
          refine HWN.out.mono ?_
          rintro e w6 ⟨rfl, hb6⟩
          have HB6 := hide (below_trans HB4.out hb6)
          clear hb6 HWN HBZ
          go_wp2_with fail
          refine (wbytes_nil _).mono ?_
          rintro e w7 ⟨rfl, rfl⟩
          go_wp2_with fail
          refine (wakes4 _).mono ?_
          rintro e w8 ⟨rfl, hb8⟩
          go_wp2
          go_ret
          exact ⟨rfl, below_trans HB6.out hb8⟩
  · go_enter Try.func9, Try.ntmps9
    go_wp2_with fail
    obtain ⟨i0, hi, hz0, hz1, hz2⟩ := info_parts (show (Try.prog.info? 49).map (fun i => (i.zero, i.size, i.bytes)) = some (some (.agg #[.int .i64 0, .int .i64 0, .int .u64 0, .string ⟨#[]⟩]), 4, 40) by kernel_rfl)
    have HI := hide hi
    have HZ0 := hide hz0
    have HZ1 := hide hz1
    have HZ2 := hide hz2
    clear hi hz0 hz1 hz2
    go_loopw [3, 18] (fun v i W => ∃ (k : Nat) (am : Option Addr) (cm : Nat), k ≤ L.length ∧ i = .int .i64 k ∧ v = .slice am k cm ∧ W.ownsRow w.heap.size 49 4 (.slice am k cm) k (((L.take k).map ofF).flatMap fc) ∧ Below w.heap.size w W) (fun _ i _ => L.length - (intOf i).toNat)
    case atStart => exact ⟨0, none, 0, by omega, rfl, rfl, World.ownsRow_nil _ _ _ _, Below.refl _ _⟩
    case round =>
      obtain ⟨k, am, cm, hk, rfl, rfl, hown, hB⟩ := hrel
      have HOWN := hide hown
      have HB := hide hB
      by_cases hlt : k < L.length
      · obtain ⟨b, off, rfl, hb, c0, c1, c2, c3⟩ := HAT.out k (by omega)
        have d0 : wr.cell? ⟨b, off + k * 4, none⟩ = some (.int .i64 (L.getD k fld0).k) := by rw [hB.cell (p := ⟨b, off + k * 4, none⟩) hb]; exact c0
        have d1 : wr.cell? ⟨b, off + k * 4 + 1, none⟩ = some (.int .i64 (L.getD k fld0).w) := by rw [hB.cell (p := ⟨b, off + k * 4 + 1, none⟩) hb]; exact c1
        have d2 : wr.cell? ⟨b, off + k * 4 + 2, none⟩ = some (.int .u64 (L.getD k fld0).n) := by rw [hB.cell (p := ⟨b, off + k * 4 + 2, none⟩) hb]; exact c2
        have d3 : wr.cell? ⟨b, off + k * 4 + 3, none⟩ = some (.string (L.getD k fld0).s) := by rw [hB.cell (p := ⟨b, off + k * 4 + 3, none⟩) hb]; exact c3
        have hox := hide (HOK.out _ (getD_mem L k (by omega)))
        have hnx := hide (map_take L k (by omega))
        have hbw : b < wr.heap.size := Nat.lt_of_lt_of_le hb hB.size
        generalize L.getD k fld0 = x at *
        have HOF := hide (fun W => of_any x hox.out W)
        obtain ⟨xk, xw, xn, xs⟩ := x
        generalize hyy : ofF ⟨xk, xw, xn, xs⟩ = y at *
        obtain ⟨yk, yw, yn, ys⟩ := y
        simp only at d0 d1 d2 d3
        simp only [fc] at HOF
        have HA := hide (HB.out.alloc HB.out.size (.cells #[.int .i64 xk, .int .i64 xw, .int .u64 xn, .string xs] 48))
        have HOA := hide (HOWN.out.alloc (.cells #[.int .i64 xk, .int .i64 xw, .int .u64 xn, .string xs] 48))
        generalize ((L.take k).map ofF).flatMap fc = M at *
        clear hB c0 c1 c2 c3 hb hown hyy
        go_wp2_with fail
        refine (HOF.out _).mono ?_
        rintro e w2 ⟨rfl, hb2⟩
        have HA2 := hide (HA.out.trans (hb2.mono HA.out.size))
        have HO2 := hide (owns_below HOA.out hb2)
        have HA3 := hide (HA2.out.alloc HA2.out.size (.cells #[.int .i64 yk, .int .i64 yw, .int .u64 yn, .string ys] 49))
        have HO3 := hide (HO2.out.alloc (.cells #[.int .i64 yk, .int .i64 yw, .int .u64 yn, .string ys] 49))
        have HNEW := hide (new_row w2 ⟨yk, yw, yn, ys⟩)
        have HONE := hide (show ∀ u ∈ [Value.int .i64 yk, .int .i64 yw, .int .u64 yn, .string ys], u.oneCell' = true by intro u hu; simp at hu; rcases hu with rfl | rfl | rfl | rfl <;> rfl)
        have HGE := hide (fun j (h : (Value.slice am k cm).ownBlock = some j) => (HO3.out.lt j h).1)
        clear hb2 hbw d0 d1 d2 d3
        go_wp2_with (at_builtin; refine wpList_append_own _ rfl _ _ 46 rfl w.heap.size 49 i0 (.agg #[.int .i64 0, .int .i64 0, .int .u64 0, .string ⟨#[]⟩]) 4 40 Try.underlying46 HI.out HZ0.out HZ1.out HZ2.out rfl (by decide) (.slice am k cm) k M rfl HO3.out ⟨w2.heap.size, 0, none⟩ 1 1 [.int .i64 yk, .int .i64 yw, .int .u64 yn, .string ys] rfl rfl HNEW.out HONE.out (by unfold maxLen; omega) (by omega) HA3.out.size ?_; intro v' w' ho hgr hnil; obtain ⟨a2, c2, rfl⟩ := owns_slice_n ho; clear hnil; have HN := hide ho; have HBN := hide (HA3.out.grown hgr HA3.out.size HGE.out); clear ho hgr)
        go_roundw
        case rel => exact ⟨k + 1, a2, c2, by omega, by go_num, rfl, by rw [hnx.out]; exact HN.out, HBN.out⟩
        case measure => simp [intOf]; omega
      · obtain rfl : k = L.length := by omega
        clear hB hown
        obtain ⟨m, hm, hml⟩ : ∃ m : List Fld, m = (L.take L.length).map ofF ∧ m.length = L.length := ⟨_, rfl, by simp <;> omega⟩
        have hgood : ∀ x ∈ m, FldGood x := by
          intro x hx
          rw [hm] at hx
          obtain ⟨x', hx', rfl⟩ := List.mem_map.1 hx
          exact ofF_good (HOK.out x' (List.mem_of_mem_take hx'))
        have hfl := hide (show FldsAt wr wr.heap.size am m from flds_of_owns (cap := cm) (by have := HOWN.out; rw [← hm] at this; rw [hml]; exact this))
        have HREF := hide (refWrite_any m (by omega) hgood am cm wr hfl.out)
        have HGOOD := hide hgood
        have HS := hide (show refS m = if (wrFs m).2 = true then ⟨#[]⟩ else bs (wrFs m).1 from rfl)
        rw [hml] at HREF
        clear hm hgood HOWN
        go_wp2_with fail
        refine HREF.out.mono ?_
        rintro e w3 ⟨rfl, hb3⟩
        have HB3 := hide (below_trans HB.out hb3)
        have HF3 := hide (show FldsAt w3 w3.heap.size am m from hfl.out.size hb3 hb3.size)
        have HW3 := hide (wrAt_new w3)
        have HF3b := hide (show FldsAt (w3.alloc (.cells #[.slice none 0 0, .bool false] 70)) w3.heap.size am m from HF3.out.below ((Below.refl _ _).alloc (Nat.le_refl _) _))
        have HB3b := hide (HB3.out.alloc HB3.out.size (.cells #[.slice none 0 0, .bool false] 70))
        have HWR := hide (write_any w3.heap.size w3.heap.size m (by omega) HGOOD.out am cm _ HF3b.out HW3.out (Nat.le_refl _))
        rw [hml] at HWR
        clear hb3 HREF
        go_wp2_with fail
        refine HWR.out.mono ?_
        rintro e w4 ⟨rfl, hw4, hb4⟩
        have HB4 := hide (HB3b.out.trans (hb4.mono HB3.out.size))
        have HBY := hide (wbytes_any w3.heap.size w3.heap.size _ _ _ hw4)
        have HF4 := hide (show FldsAt w4 w4.heap.size am m from HF3b.out.size hb4 (by have := hb4.size; simp at this; omega))
        have HWN := hide (write_nil m (by omega) HGOOD.out am cm w4 HF4.out)
        rw [hml] at HWN
        generalize refS m = RS at *
        generalize wrFs m = WF at *
        obtain ⟨l, bad⟩ := WF
        simp only at *
        clear hw4 hb4 HWR
        cases bad
        · have hrs : RS = bs l := by have := HS.out; rwa [if_neg (by simp)] at this
          subst hrs
          clear HS
          have hby := HBY.out
          rw [if_neg (by simp), if_neg (by simp)] at hby
          have HBZ := hide hby
          clear hby HBY
          go_wp2_with fail
          refine HBZ.out.mono ?_
          rintro e w5 ⟨rfl, rfl⟩
          go_wp2_with fail
          refine HWN.out.mono ?_
          rintro e w6 ⟨rfl, hb6⟩
          have HB6 := hide (below_trans HB4.out hb6)
          clear hb6 HWN HBZ
          go_wp2_with fail
          refine (wbytes_nil _).mono ?_
          rintro e w7 ⟨rfl, rfl⟩
          go_wp2_with fail
          refine (wakes4 _).mono ?_
          rintro e w8 ⟨rfl, hb8⟩
          go_wp2
          go_ret
          exact ⟨rfl, below_trans HB6.out hb8⟩
        · have hrs : RS = ⟨#[]⟩ := by have := HS.out; rwa [if_pos rfl] at this
          subst hrs
          clear HS
          have hby := HBY.out
          rw [if_pos rfl, if_pos rfl] at hby
          have HBZ := hide hby
          clear hby HBY
          go_wp2_with fail
          refine HBZ.out.mono ?_
          rintro e w5 ⟨rfl, rfl⟩
          go_wp2_with fail
          refine HWN.out.mono ?_
          rintro e w6 ⟨rfl, hb6⟩
          have HB6 := hide (below_trans HB4.out hb6)
          clear hb6 HWN HBZ
          go_wp2_with fail
          refine (wbytes_nil _).mono ?_
          rintro e w7 ⟨rfl, rfl⟩
          go_wp2_with fail
          refine (wakes4 _).mono ?_
          rintro e w8 ⟨rfl, hb8⟩
          go_wp2
          go_ret
          exact ⟨rfl, below_trans HB6.out hb8⟩

set_option maxRecDepth 100000 in
theorem curWrites_lifted (os : Os) (started : os.Started) (H : Type) (enc : TypeId × Value → H) :
    ReturnsInHanded {} Try.checked os 9 .any (Rows.curWritesSpec.pre6 enc Try.prog Try.f9 Rows.curWritesRow.domain false) (Rows.curWritesSpec.post enc Try.prog Try.f9 false true false false) := by
  refine returnsInHanded_of_change (C := Try.checked) own started (by kernel_rfl) Try.func9
    (ChangeSpec.witness6 (enc := enc) (C := Try.checked) false ⟨#[], #[.slice none 0 0], []⟩ 8 (by kernel_rfl) (by kernel_rfl) (by kernel_rfl) (by kernel_rfl)) ?_
  intro W base args ds gs before hval0 hW _ _
  have hval : ∀ (j : Nat) t v, Try.f9.params[j]? = some t → args[j]? = some v → Value.okWide Try.prog W .any base t v := hval0
  have hW' := hW
  obtain ⟨p, q, hA0, hV, rfl, hfz, hnd⟩ := hW
  have hA : DataW.TrodAll enc Try.prog W 0 (fun _ => true) true Try.f9.params.toList args.toList ds p := hA0
  rw [Try.params9] at hA hval
  obtain ⟨v0, vs0, d0, ds0, p0, q0, hargs, rfl, rfl, h0, r0⟩ := trodAll_cons hA
  obtain ⟨rfl, rfl, rfl⟩ := trodAll_nil r0
  obtain rfl : args = #[v0] := by cases args; simp_all
  obtain ⟨rfl, rfl⟩ := trodVars_none hV
  have z0 := open_fields (hval 0 45 v0 rfl rfl) h0
  clear hA0 hval0
  refine (curWrites_walk v0 W z0).mono fun e W' ⟨he, hb⟩ => ?_
  subst he
  exact ⟨_, rfl, post_law laidOut (of_decide_eq_true (by kernel_rfl)) rfl rfl Try.underlying4 hW' ⟨rfl, rfl, rfl⟩ hb⟩

/-- THE STATEMENT -/
theorem curWrites_holds : Rows.CurWritesSaid :=
  OpenClaim.holds_of_wide 9 Try.f9 rfl rfl rfl rfl rfl rfl rfl ⟨rfl, rfl, rfl, rfl, rfl⟩ rfl rfl rfl rfl rfl (by kernel_rfl) Try.func9 (by kernel_rfl)
    (of_decide_eq_true (by kernel_rfl)) (by unfold Func.isWrapper; first | (rw [if_pos (by decide +kernel)]; kernel_rfl) | (rw [if_neg (by decide +kernel)]; exact ⟨rfl, rfl⟩))
    (fun os started H enc _ => curWrites_lifted os started H enc)

end Go.Proofs.Ytmhppjgclaahnaa
