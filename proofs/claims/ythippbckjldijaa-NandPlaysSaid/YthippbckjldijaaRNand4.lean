/-
  Layer 5, the document's calls, fourth part: Program where it is cut; Program whole.
-/
import Derived.Test.YthippbckjldijaaRNand3
--import Derived.Test.Zdbg
namespace Go.Proofs.Ythippbckjldijaa
set_option linter.unusedSimpArgs false
set_option linter.unusedVariables false
open Go.RowKit Go.WideShapes Go.ChangeShapes Go.ChangeAt Go.Deep

section
variable {c pq n e a f m cp B : Nat} {G : Nat → Nat} {S : ChipM}
/-- the bytes of a page whose program was cut -/
def tornU (t : ByteArray) (i : Nat) : UInt8 := if t.size = 0 then 255 else t.get! (i % t.size)
def tornL (t : ByteArray) (m : Nat) : List UInt8 := (List.range m).map (tornU t)
theorem tornL_length (t : ByteArray) (m : Nat) : (tornL t m).length = m := by simp [tornL]
theorem tornL_next (t : ByteArray) (m : Nat) : tornL t (m + 1) = tornL t m ++ [tornU t m] := by simp [tornL, List.range_succ]
theorem torn_page (S : ChipM) (hb : S.blank.1 ++ S.blank.2 = fillZ (S.size + 32) 255) : (tornP S).1 ++ (tornP S).2 = ⟨(tornL S.torn (S.size + 32)).toArray⟩ := by
  unfold tornP
  by_cases hz : S.torn.size = 0
  · rw [if_pos hz, hb]
    unfold fillZ tornL
    congr 2
    apply List.ext_getElem
    · simp
    · intro i h1 h2
      simp [tornU, hz]
  · rw [if_neg hz, filled_torn _ _ (by omega)]
    unfold tornZ tornL
    congr 2
    apply List.map_congr_left
    intro i _
    unfold tornU
    rw [if_neg hz]
def u8s (l : List UInt8) : List Value := l.map fun b => .int .u8 (b.toNat : Int)
theorem conv_owns {w : World} {B : Nat} {a : Option Addr} {cap : Nat} {l : List UInt8} (hl0 : 0 < l.length) (h : w.ownsRow B 5 1 (.slice a l.length cap) l.length (u8s l)) :
    (convert 66 9 (.slice a l.length cap)).run Try.prog w = .ok (.string ⟨l.toArray⟩) w := by
  rcases h.2 with ⟨hv, hn⟩ | ⟨g, cap', cur, hv, _, hg, hnc, _, hsz, hx⟩
  · omega
  · simp only [Value.slice.injEq] at hv
    obtain ⟨rfl, _, rfl⟩ := hv
    exact run_convert_bytes_back (P := Try.prog) w 66 9 5 ⟨g, 0, none⟩ cap l Try.underlying66 Try.underlying5 Try.underlying9 (fun i hi => by
      have h1 : (u8s l)[i]? = some (.int .u8 (l[i].toNat : Int)) := by simp [u8s, hi]
      rw [← hx] at h1
      rw [List.getElem?_take, if_pos (by omega)] at h1
      have h2 : w.cell? ⟨g, i, none⟩ = some (.int .u8 (l[i].toNat : Int)) := by rw [cell_of_block hg]; simpa using h1
      by_cases e : i = 0
      · subst e; simpa [Addr.add] using h2
      · simpa [Addr.add, e] using h2)
theorem idx_take (t : ByteArray) (j : Nat) (h : j % t.size < t.size) (w : World) (X : Result Value) : (if hi : 0 ≤ (j : Int).tmod (t.size : Int) ∧ (j : Int).tmod (t.size : Int) < (t.size : Int) then Result.ok (Value.int .u8 (t[((j : Int).tmod (t.size : Int)).toNat].toNat : Int)) w else X) = Result.ok (Value.int .u8 ((t[j % t.size]'h).toNat : Int)) w := by
  have e1 : (j : Int).tmod (t.size : Int) = ((j % t.size : Nat) : Int) := by rw [Int.tmod_eq_emod_of_nonneg (by omega)]; simp
  rw [dif_pos (by rw [e1]; omega)]
  simp only [e1, Int.toNat_natCast]
theorem new_one8 (w : World) (v : Value) (t : Nat) : ∀ (j : Nat) (u : Value), [v][j]? = some u → (w.alloc (.cells #[v] t)).cell? ((⟨w.heap.size, 0, none⟩ : Addr).add j) = some u := cells_new (heap_new w _)
theorem one_u8 (x : Int) : ∀ u ∈ [Value.int .u8 x], u.oneCell' = true := by
  intro u hu
  simp at hu
  subst hu
  rfl
set_option maxRecDepth 100000 in
set_option maxHeartbeats 2000000 in
theorem rprog_cut (hS : NandOk S) (k i : Nat) (d t : ByteArray) (w : World) (h : RefAt w c pq n e a f m cp G B S) (ha : askE S (k : Int) (i : Int) = 0) (hd : d.size = S.size) (he : t.size = 32) (hf : (S.blk k).failed = false) (hm : (S.blk k).mill = false) (hnx : (S.blk k).next = (i : Int)) (hfz : S.fuse = 1) (hblk : S.blank.1 ++ S.blank.2 = fillZ (S.size + 32) 255) :
    Calls Try.prog 15 #[.pointer (some ⟨c, 0, none⟩), .int .i64 (k : Int), .int .i64 (i : Int), .string d, .string t] w (RefIs c pq n e a f m cp G B (progS S k i d t) (.int .i64 (progE S k)) w) := by
  obtain ⟨i0, hix, hz0, hz1, hz2⟩ := info_parts (show (Try.prog.info? 5).map (fun i => (i.zero, i.size, i.bytes)) = some (some (.int .u8 0), 1, 1) by kernel_rfl)
  have HI := hide hix
  have HZ0 := hide hz0
  have HZ1 := hide hz1
  have HZ2 := hide hz2
  clear hix hz0 hz1 hz2
  obtain ⟨ho, -, hk', -, hi'⟩ := askE_in ha
  have hk : k < S.L.length := by omega
  have hi : i < S.pgs := by omega
  have hfew := h.few
  have HASK := hide (ready_any (k : Int) (i : Int) w h)
  rw [ha] at HASK
  have c2 : w.cell? ⟨c, 2, none⟩ = some (.int .i64 (S.size : Int)) := h.cell 2
  have c7 : w.cell? ⟨c, 7, none⟩ = some (.slice (some ⟨f, 0, none⟩) S.L.length S.L.length) := h.cell 7
  have c4 : w.cell? ⟨c, 4, none⟩ = some (.slice (some ⟨n, 0, none⟩) S.L.length S.L.length) := h.cell 4
  have dn := (h.at_next k hk).1
  have fn := (h.at_next k hk).2
  have df := (h.at_fail k hk).1
  have hdI : (d.size : Int) = (S.size : Int) := by rw [hd]
  have heI : (t.size : Int) = 32 := by rw [he]; rfl
  have c12 : w.cell? ⟨c, 12, none⟩ = some (.int .i64 S.progs) := h.cell 12
  have f12 := h.free 12
  rw [hf, hm] at df
  rw [hnx] at dn
  have hw1 : IntKind.i64.wrap ((i : Int) + 1) = (i : Int) + 1 := by rw [IntKind.wrap_i64]; omega
  have hw2 : IntKind.i64.wrap (S.progs + 1) = S.progs + 1 := by rw [IntKind.wrap_i64]; have := hS.progs; omega
  have hN1 := h.setNext k hk ((i : Int) + 1)
  have hT1 := h.turnNext k (.int .i64 ((i : Int) + 1))
  have N2 := hide (hN1.setHead 12 (.int .i64 (S.progs + 1)) (progsS (S.put k { S.blk k with next := (i : Int) + 1 })) rfl rfl rfl)
  have T2 := hide (hT1.trans (hN1.turnHead 12 (.int .i64 (S.progs + 1))))
  have HNC := hide (ne_of_type h.next h.head (by decide))
  have hnc := HNC.out
  have HOK := hide hS
  have hd' := hd
  have he' := he
  clear h ha hS hd he hN1 hT1
  go_enter Try.func15, Try.ntmps15
  go_wp2_with fail
  refine HASK.out.mono ?_
  rintro e0 w1 ⟨rfl, rfl⟩
  go_wp2_with fail
  clear c2 c7 c4 dn fn df c12 f12 HASK hdI heI
  generalize (w.setCell ⟨n, k, none⟩ (.int .i64 ((i : Int) + 1))).setCell ⟨c, 12, none⟩ (.int .i64 (S.progs + 1)) = w2 at *
  have HC := hide (rcut_any (S := progsS (S.put k { S.blk k with next := (i : Int) + 1 })) ho HOK.out.fuse.1 HOK.out.fuse.2 w2 N2.out)
  obtain ⟨S3, hS3⟩ : ∃ S3, S3 = cutS (progsS (S.put k { S.blk k with next := (i : Int) + 1 })) := ⟨_, rfl⟩
  have hb3 : S3.blk k = { S.blk k with next := (i : Int) + 1 } := by
    rw [hS3, cut_blk]
    exact blk_put_self S k _ hk
  have hl3 : S3.L.length = S.L.length := by rw [hS3, cut_len]; exact put_length S k _
  have hg3 : S3.pgs = S.pgs := by rw [hS3, cut_pgs]; rfl
  have hz3 : S3.size = S.size := by rw [hS3, cut_size]; rfl
  have ht3 : S3.torn = S.torn := by rw [hS3, cut_torn]; rfl
  have HPS := hide (show progS S k i d t = if S.fuse = 1 then S3.put k { S3.blk k with pages := (S3.blk k).pages.set i (tornP S3) }
    else if (S.blk k).weak = true then S3.put k { S3.blk k with pages := (S3.blk k).pages.set i (filledP S.size zeroB), failed := true }
    else S3.put k { S3.blk k with pages := (S3.blk k).pages.set i (d, t) } by rw [hS3]; rfl)
  have HPE := hide (show progE S k = if S.fuse = 1 then 9 else if (S.blk k).weak = true then 10 else 0 from rfl)
  rw [show cutS (progsS (S.put k { S.blk k with next := (i : Int) + 1 })) = S3 from hS3.symm] at HC
  rw [show (progsS (S.put k { S.blk k with next := (i : Int) + 1 })).fuse = S.fuse from rfl] at HC
  have HWK := hide (show ((S3.blk k).weak || (S3.blk k).mill) = (S.blk k).weak by rw [hb3]; show ((S.blk k).weak || (S.blk k).mill) = _; rw [hm, Bool.or_false])
  have HMI := hide (show (true || (S3.blk k).mill) = true from rfl)
  have hk3 : k < S3.L.length := by omega
  have hi3 : i < S3.pgs := by omega
  have HTP := hide (show (tornP S3).1 ++ (tornP S3).2 = ⟨(tornL S.torn (S.size + 32)).toArray⟩ by
    have h1 := torn_page S3 (by rw [hz3, ← hblk, hS3, cut_blank]; rfl)
    rw [ht3, hz3] at h1
    exact h1)
  clear hS3 hb3 hblk
  rw [decide_eq_true hfz] at HC
  refine HC.out.mono ?_
  rintro e0 w4 ⟨rfl, hn, ht⟩
  have N4 := hide hn
  have T4 := hide (T2.out.trans ht)
  clear hn ht HC N2 T2
  have HFR := hide (show progS S k i d t = S3.put k { S3.blk k with pages := (S3.blk k).pages.set i (tornP S3) } by rw [HPS.out, if_pos hfz])
  have HFE := hide (show (9 : Int) = progE S k by rw [HPE.out, if_pos hfz])
  have hsz := HOK.out.size
  have htz := HOK.out.torn
  clear HPS HPE HWK HMI hfz HOK hf hm hnx
  go_wp2_with fail
  have hB4 := N4.out.size
  go_loopw [13, 14] (fun s x W => ∃ (j : Nat) (ad : Option Addr) (cap : Nat), j ≤ S.size + 32 ∧ x = .int .i64 j ∧ s = .slice ad j cap ∧ W.ownsRow w4.heap.size 5 1 (.slice ad j cap) j (u8s (tornL S.torn j)) ∧ Below w4.heap.size w4 W) (fun _ x _ => S.size + 32 - (intOf x).toNat)
  case atStart => exact ⟨0, none, 0, by omega, rfl, rfl, World.ownsRow_nil _ _ _ _, Below.refl _ _⟩
  case round =>
    obtain ⟨j, ad, cap, hj, rfl, rfl, hown, hB⟩ := hrel
    have HOWN := hide hown
    have HB := hide hB
    have NW := hide (N4.out.below hB)
    clear hown hB
    have hgl : wr.heap.size ≥ w4.heap.size := HB.out.size
    have c2 : wr.cell? ⟨c, 2, none⟩ = some (.int .i64 (S.size : Int)) := by rw [← hz3]; exact NW.out.cell 2
    have hwz : IntKind.i64.wrap ((S.size : Int) + 32) = (S.size : Int) + 32 := by rw [IntKind.wrap_i64]; omega
    by_cases hlt : j < S.size + 32
    · have c10 : wr.cell? ⟨c, 10, none⟩ = some (.string S.torn) := by rw [← ht3]; exact NW.out.cell 10
      have HNX := hide (tornL_next S.torn j)
      by_cases hz : S.torn.size = 0
      · have HU := hide (show tornU S.torn j = 255 by unfold tornU; rw [if_pos hz])
        rw [size_zero _ hz] at c10
        have HA := hide (HOWN.out.alloc (.cells #[.int .u8 255] 5))
        have HBA := hide (HB.out.alloc HB.out.size (.cells #[.int .u8 255] 5))
        have hw5 : w4.heap.size ≤ (wr.alloc (.cells #[.int .u8 255] 5)).heap.size := by simp; omega
        have HNEW := hide (show ∀ j u, [Value.int .u8 255][j]? = some u → (wr.alloc (.cells #[.int .u8 255] 5)).cell? ((⟨wr.heap.size, 0, none⟩ : Addr).add j) = some u from new_one8 wr (.int .u8 255) 5)
        have HGE := hide (fun g (h : (Value.slice ad j cap).ownBlock = some g) => (HA.out.lt g h).1)
        go_wp2_with (at_builtin; refine wpList_append_own2 _ rfl _ _ 66 rfl w4.heap.size 5 i0 (.int .u8 0) 1 1 Try.underlying66 HI.out HZ0.out HZ1.out HZ2.out rfl (by decide) (.slice ad j cap) j (u8s (tornL S.torn j)) rfl HA.out ⟨wr.heap.size, 0, none⟩ 1 1 (by decide) [.int .u8 255] rfl rfl HNEW.out (one_u8 _) (by unfold maxLen; omega) (by omega) hw5 ?_; intro g3 c3' w' ho hgr hnil; have HO6 := hide ho; have HB6 := hide (HBA.out.grown hgr HBA.out.size HGE.out); clear ho hgr hnil)
        go_roundw
        case rel => exact ⟨j + 1, some ⟨g3, 0, none⟩, c3', by omega, by go_num, rfl, by rw [HNX.out, HU.out]; simpa [u8s] using HO6.out, HB6.out⟩
        case measure => simp [intOf]; omega
      · have hm9 : j % S.torn.size < S.torn.size := Nat.mod_lt _ (by omega)
        have hr1 : 0 ≤ (j : Int) % (S.torn.size : Int) := by omega
        have hr2 : (j : Int) % (S.torn.size : Int) < (S.torn.size : Int) := by omega
        have HU := hide (show tornU S.torn j = (S.torn[j % S.torn.size]'hm9) by
          unfold tornU
          rw [if_neg hz]
          show S.torn.data[j % S.torn.size]! = _
          rw [getElem!_pos S.torn.data (j % S.torn.size) hm9]
          rfl)
        rw [HU.out] at HNX
        have hem : S.torn.toList.isEmpty = false := by
          rw [ByteArray.toList_eq]
          cases hq : S.torn.data.toList with
          | nil =>
            have h1 : S.torn.data.toList.length = 0 := by rw [hq]; rfl
            rw [size_list] at h1
            exact absurd h1 hz
          | cons a l => rfl
        have HTL := hide (tornL_length S.torn j)
        go_upto_region 22 with (fail)
        obtain ⟨LN, hLN⟩ : ∃ LN, tornL S.torn (j + 1) = LN := ⟨_, rfl⟩
        rw [hLN] at HNX
        have HLN := hide hLN
        clear hLN
        generalize tornL S.torn j = LJ at *
        generalize htt : S.torn = tt at *
        have HTT := hide htt
        clear htt
        have NV := hide NW.out.drew
        have OV := hide (show wr.drew.ownsRow w4.heap.size 5 1 (.slice ad j cap) j (u8s LJ) from HOWN.out)
        have BVW := hide HB.out.drew
        clear NW HOWN HB c2 c10 hgl
        --BEGIN22
        refine wp_region_held_drew (S := (fun W => W.cell? ⟨c, 10, none⟩ = some (.string tt))) (by kernel_rfl) (by rw [← ht3]; exact NV.out.cell 10) (fun hHeld => ?_)
        generalize wr.drew = v0 at *
        refine wpAnyH_take (i := 0) (oi := { dst := some 101, op := Op.move (Operand.tmp 13), type := 66, pos := "ref.go:134", after := #[], guard := none }) (v := ?_) rfl (by kernel_rfl) (by kernel_rfl) (by kernel_rfl) (fun _ _ _ h => h) (Or.inl ⟨by kernel_rfl, ?_⟩) hHeld ?_
        rotate_left
        · (intro w hSw; (try dsimp only at hSw); go_simp); try with_reducible rfl
        try simp only [Act.put, List.setIfInBounds_toArray, List.set_cons_zero, List.set_cons_succ]
        refine wpAnyH_take (i := 1) (oi := { dst := some 102, op := Op.move (Operand.tmp 0), type := 32, pos := "ref.go:134", after := #[], guard := none }) (v := ?_) rfl (by kernel_rfl) (by kernel_rfl) (by kernel_rfl) (fun _ _ _ h => h) (Or.inl ⟨by kernel_rfl, ?_⟩) hHeld ?_
        rotate_left
        · (intro w hSw; (try dsimp only at hSw); go_simp); try with_reducible rfl
        try simp only [Act.put, List.setIfInBounds_toArray, List.set_cons_zero, List.set_cons_succ]
        refine wpAnyH_take (i := 2) (oi := { dst := some 103, op := Op.nilCheck (Operand.tmp 102), type := 0, pos := "ref.go:134", after := #[{ on := 1, ground := Ground.data }], guard := none }) (v := ?_) rfl (by kernel_rfl) (by kernel_rfl) (by kernel_rfl) (fun _ _ _ h => h) (Or.inl ⟨by kernel_rfl, ?_⟩) hHeld ?_
        rotate_left
        · (intro w hSw; (try dsimp only at hSw); go_simp); try with_reducible rfl
        try simp only [Act.put, List.setIfInBounds_toArray, List.set_cons_zero, List.set_cons_succ]
        refine wpAnyH_take (i := 3) (oi := { dst := some 104, op := Op.fieldAddr 48 (Operand.tmp 103) 10, type := 0, pos := "ref.go:134", after := #[{ on := 2, ground := Ground.data }], guard := none }) (v := ?_) rfl (by kernel_rfl) (by kernel_rfl) (by kernel_rfl) (fun _ _ _ h => h) (Or.inl ⟨by kernel_rfl, ?_⟩) hHeld ?_
        rotate_left
        · (intro w hSw; (try dsimp only at hSw); go_simp); try with_reducible rfl
        try simp only [Act.put, List.setIfInBounds_toArray, List.set_cons_zero, List.set_cons_succ]
        refine wpAnyH_take (i := 4) (oi := { dst := some 105, op := Op.load 9 (Operand.tmp 104), type := 9, pos := "ref.go:134", after := #[{ on := 3, ground := Ground.data }], guard := none }) (v := ?_) rfl (by kernel_rfl) (by kernel_rfl) (by kernel_rfl) (fun _ _ _ h => h) (Or.inl ⟨by kernel_rfl, ?_⟩) hHeld ?_
        rotate_left
        · (intro w hSw; (try dsimp only at hSw); go_simp); try with_reducible rfl
        try simp only [Act.put, List.setIfInBounds_toArray, List.set_cons_zero, List.set_cons_succ]
        refine wpAnyH_take (i := 5) (oi := { dst := some 106, op := Op.move (Operand.tmp 14), type := 3, pos := "ref.go:134", after := #[], guard := none }) (v := ?_) rfl (by kernel_rfl) (by kernel_rfl) (by kernel_rfl) (fun _ _ _ h => h) (Or.inl ⟨by kernel_rfl, ?_⟩) hHeld ?_
        rotate_left
        · (intro w hSw; (try dsimp only at hSw); go_simp); try with_reducible rfl
        try simp only [Act.put, List.setIfInBounds_toArray, List.set_cons_zero, List.set_cons_succ]
        refine wpAnyH_take (i := 6) (oi := { dst := some 107, op := Op.move (Operand.tmp 0), type := 32, pos := "ref.go:134", after := #[], guard := none }) (v := ?_) rfl (by kernel_rfl) (by kernel_rfl) (by kernel_rfl) (fun _ _ _ h => h) (Or.inl ⟨by kernel_rfl, ?_⟩) hHeld ?_
        rotate_left
        · (intro w hSw; (try dsimp only at hSw); go_simp); try with_reducible rfl
        try simp only [Act.put, List.setIfInBounds_toArray, List.set_cons_zero, List.set_cons_succ]
        refine wpAnyH_take (i := 7) (oi := { dst := some 108, op := Op.nilCheck (Operand.tmp 107), type := 0, pos := "ref.go:134", after := #[{ on := 6, ground := Ground.data }], guard := none }) (v := ?_) rfl (by kernel_rfl) (by kernel_rfl) (by kernel_rfl) (fun _ _ _ h => h) (Or.inl ⟨by kernel_rfl, ?_⟩) hHeld ?_
        rotate_left
        · (intro w hSw; (try dsimp only at hSw); go_simp); try with_reducible rfl
        try simp only [Act.put, List.setIfInBounds_toArray, List.set_cons_zero, List.set_cons_succ]
        refine wpAnyH_take (i := 8) (oi := { dst := some 109, op := Op.fieldAddr 48 (Operand.tmp 108) 10, type := 0, pos := "ref.go:134", after := #[{ on := 7, ground := Ground.data }], guard := none }) (v := ?_) rfl (by kernel_rfl) (by kernel_rfl) (by kernel_rfl) (fun _ _ _ h => h) (Or.inl ⟨by kernel_rfl, ?_⟩) hHeld ?_
        rotate_left
        · (intro w hSw; (try dsimp only at hSw); go_simp); try with_reducible rfl
        try simp only [Act.put, List.setIfInBounds_toArray, List.set_cons_zero, List.set_cons_succ]
        refine wpAnyH_take (i := 9) (oi := { dst := some 110, op := Op.load 9 (Operand.tmp 109), type := 9, pos := "ref.go:134", after := #[{ on := 8, ground := Ground.data }], guard := none }) (v := ?_) rfl (by kernel_rfl) (by kernel_rfl) (by kernel_rfl) (fun _ _ _ h => h) (Or.inl ⟨by kernel_rfl, ?_⟩) hHeld ?_
        rotate_left
        · (intro w hSw; (try dsimp only at hSw); go_simp); try with_reducible rfl
        try simp only [Act.put, List.setIfInBounds_toArray, List.set_cons_zero, List.set_cons_succ]
        refine wpAnyH_take (i := 10) (oi := { dst := some 111, op := Op.call { callee := Callee.builtin Builtin.len, args := #[Operand.tmp 110], argTypes := #[9] }, type := 3, pos := "ref.go:134", after := #[{ on := 9, ground := Ground.data }], guard := none }) (v := ?_) rfl (by kernel_rfl) (by kernel_rfl) (by kernel_rfl) (fun _ _ _ h => h) (Or.inl ⟨by kernel_rfl, ?_⟩) hHeld ?_
        rotate_left
        · (intro w hSw; (try dsimp only at hSw); go_simp); try with_reducible rfl
        try simp only [Act.put, List.setIfInBounds_toArray, List.set_cons_zero, List.set_cons_succ]
        refine wpAnyH_take (i := 11) (oi := { dst := some 112, op := Op.binOp BinOp.rem 3 (Operand.tmp 106) (Operand.tmp 111) 3, type := 3, pos := "ref.go:134", after := #[{ on := 5, ground := Ground.data }, { on := 10, ground := Ground.data }], guard := none }) (v := ?_) rfl (by kernel_rfl) (by kernel_rfl) (by kernel_rfl) (fun _ _ _ h => h) (Or.inl ⟨by kernel_rfl, ?_⟩) hHeld ?_
        rotate_left
        · (intro w hSw; (try dsimp only at hSw); go_simp); try with_reducible rfl
        try simp only [Act.put, List.setIfInBounds_toArray, List.set_cons_zero, List.set_cons_succ]
        refine wpAnyH_take (i := 12) (oi := { dst := some 113, op := Op.index 9 (Operand.tmp 105) (Operand.tmp 112), type := 5, pos := "ref.go:134", after := #[{ on := 4, ground := Ground.data }, { on := 11, ground := Ground.data }], guard := none }) (v := ?_) rfl (by kernel_rfl) (by kernel_rfl) (by kernel_rfl) (fun _ _ _ h => h) (Or.inl ⟨by kernel_rfl, ?_⟩) hHeld ?_
        rotate_left
        · (intro w hSw; (try dsimp only at hSw); go_simp; rw [idx_take tt j hm9]; rfl)
        try simp only [Act.put, List.setIfInBounds_toArray, List.set_cons_zero, List.set_cons_succ]
        refine wpAnyH_ready (rs := [13]) (by kernel_rfl) (by simp) (AllReadyH.cons (o := { dst := some 114, op := Op.buildSlice 66 1 #[(0, Operand.tmp 113)], type := 66, pos := "ref.go:134", after := #[{ on := 12, ground := Ground.data }], guard := none }) rfl (fun K hK => ?_) AllReadyH.nil)
        have hOld := hide hHeld
        clear hHeld
        go_simp
        obtain ⟨oz, hoz⟩ : ∃ oz, oz = Obj.cells #[Value.int .u8 ((tt[j % tt.size]'hm9).toNat : Int)] 5 := ⟨_, rfl⟩
        try rw [← hoz]
        have hal := (Below.refl v0.heap.size v0).alloc (Nat.le_refl _) oz
        have HA := hide (OV.out.alloc oz)
        have HBA := hide (BVW.out.alloc BVW.out.size oz)
        have NA := hide (NV.out.below hal)
        have HGE := hide (fun g (h : (Value.slice ad j cap).ownBlock = some g) => (HA.out.lt g h).1)
        have XB := hide (show (v0.alloc oz).heap[v0.heap.size]? = some (.cells #[Value.int .u8 ((tt[j % tt.size]'hm9).toNat : Int)] 5 (0, 0)) from by rw [heap_new, hoz])
        clear hal NV OV BVW
        generalize v0.alloc oz = v1 at *
        generalize v0.heap.size = xb at *
        (try go_wp2_with fail)
        refine hK.out _ _ (by rw [← ht3]; exact NA.out.cell 10) (fun hHeld => ?_)
        clear hK K hOld
        try simp only [Act.put, List.setIfInBounds_toArray, List.set_cons_zero, List.set_cons_succ]
        refine wpAnyH_ready (rs := [14]) (by kernel_rfl) (by simp) (AllReadyH.cons (o := { dst := some 115, op := Op.call { callee := Callee.builtin Builtin.append, args := #[Operand.tmp 101, Operand.tmp 114], argTypes := #[66, 66] }, type := 66, pos := "ref.go:134", after := #[{ on := 0, ground := Ground.data }, { on := 13, ground := Ground.data }], guard := none }) rfl (fun K hK => ?_) AllReadyH.nil)
        have hOld := hide hHeld
        clear hHeld
        refine wp_append_own2 _ (.tmp 101) (.tmp 114) 66 rfl w4.heap.size 5 i0 (.int .u8 0) 1 1 Try.underlying66 HI.out HZ0.out HZ1.out HZ2.out rfl (by decide) (.slice ad j cap) j (u8s LJ) rfl HA.out ⟨xb, 0, none⟩ 1 1 (by decide) [Value.int .u8 ((tt[j % tt.size]'hm9).toNat : Int)] rfl rfl (cells_new XB.out) (one_u8 _) (by unfold maxLen; omega) (by omega) HBA.out.size ?_
        intro g3 c3' w' ho hgr hnil
        have HO6 := hide (show w'.ownsRow w4.heap.size 5 1 (.slice (some ⟨g3, 0, none⟩) (j + 1) c3') (j + 1) (u8s LN) from by rw [HNX.out]; simpa [u8s] using ho)
        have HB6 := hide (HBA.out.grown hgr HBA.out.size HGE.out)
        have N6 := hide (N4.out.below HB6.out)
        clear ho hgr hnil HA HBA NA
        refine hK.out _ _ (by rw [← ht3]; exact N6.out.cell 10) (fun hHeld => ?_)
        clear hK K hOld
        try simp only [Act.put, List.setIfInBounds_toArray, List.set_cons_zero, List.set_cons_succ]
        refine wpAnyH_take (i := 15) (oi := { dst := some 13, op := Op.assign (Operand.tmp 115), type := 66, pos := "ref.go:134", after := #[{ on := 14, ground := Ground.data }, { on := 14, ground := Ground.chain }, { on := 0, ground := Ground.phase }, { on := 1, ground := Ground.phase }, { on := 2, ground := Ground.phase }, { on := 3, ground := Ground.phase }, { on := 4, ground := Ground.phase }, { on := 5, ground := Ground.phase }, { on := 6, ground := Ground.phase }, { on := 7, ground := Ground.phase }, { on := 8, ground := Ground.phase }, { on := 9, ground := Ground.phase }, { on := 10, ground := Ground.phase }, { on := 11, ground := Ground.phase }, { on := 12, ground := Ground.phase }, { on := 13, ground := Ground.phase }, { on := 14, ground := Ground.phase }], guard := none }) (v := ?_) rfl (by kernel_rfl) (by kernel_rfl) (by kernel_rfl) (fun _ _ _ h => h) (Or.inl ⟨by kernel_rfl, ?_⟩) hHeld ?_
        rotate_left
        · (intro w hSw; (try dsimp only at hSw); go_simp); try with_reducible rfl
        try simp only [Act.put, List.setIfInBounds_toArray, List.set_cons_zero, List.set_cons_succ]
        refine wpAnyH_done (by kernel_rfl) ?_ _
        clear hHeld
        --END22
        go_wp2_with fail
        go_roundw
        case rel => exact ⟨j + 1, some ⟨g3, 0, none⟩, c3', by omega, by go_num, rfl, by rw [HTT.out, HLN.out]; exact HO6.out, HB6.out⟩
        case measure => simp [intOf]; omega
    · obtain rfl : j = S.size + 32 := by omega
      have HL := tornL_length S.torn (S.size + 32)
      have hcv : (convert 66 9 (.slice ad (S.size + 32) cap)).run Try.prog wr.drew = .ok (.string ((tornP S3).1 ++ (tornP S3).2)) wr.drew := by
        rw [HTP.out]
        have h1 := (show wr.drew.ownsRow w4.heap.size 5 1 (.slice ad (S.size + 32) cap) (S.size + 32) (u8s (tornL S.torn (S.size + 32))) from HOWN.out)
        generalize tornL S.torn (S.size + 32) = L at *
        rw [← HL] at h1 ⊢
        exact conv_owns (by omega) h1
      have c3 : wr.cell? ⟨c, 3, none⟩ = some (.slice (some ⟨pq, 0, none⟩) S3.L.length cp) := NW.out.cell 3
      have d3 := NW.out.at_row k hk3
      have e0 := (NW.out.at_page k hk3 i hi3).1
      have e1 := (NW.out.at_page k hk3 i hi3).2
      have N6 := hide (NW.out.drew.setPage k hk3 i (tornP S3))
      have T6 := hide ((T4.out.trans (RTurn.of_below HB.out hB4)).drew.trans (NW.out.drew.turnPage k hk3 i (.string ((tornP S3).1 ++ (tornP S3).2))))
      clear HOWN HB NW HL HTP
      generalize (tornP S3).1 ++ (tornP S3).2 = tp at *
      go_upto_region 23 with (fail)
      go_still_tail 11, (by kernel_rfl)
      change wpList _ _ _ _ _ wr.drew
      go_wp2_with fail
      go_ret
      refine ⟨ret_int HFE.out, ?_, T6.out⟩
      rw [HFR.out]
      exact N6.out
/-- a chip's blank page is of ones -/
def BlankOk (S : ChipM) : Prop := S.blank.1 ++ S.blank.2 = fillZ (S.size + 32) 255
theorem rprog_any (hS : NandOk S) (hB : BlankOk S) (b i : Int) (d t : ByteArray) (w : World) (h : RefAt w c pq n e a f m cp G B S) :
    Calls Try.prog 15 #[.pointer (some ⟨c, 0, none⟩), .int .i64 b, .int .i64 i, .string d, .string t] w (RefIs c pq n e a f m cp G B (progT S b i d t).1 (.int .i64 (progT S b i d t).2) w) := by
  by_cases ha : askE S b i = 0
  · by_cases hd : d.size ≠ S.size ∨ t.size ≠ 32
    · have e1 : progT S b i d t = (S, 2) := by unfold progT; rw [if_neg (fun h => h ha), if_pos hd]
      rw [e1]
      exact rprog_arg b i d t w h ha hd
    · obtain ⟨ho, hb0, hk', hi0, hi'⟩ := askE_in ha
      obtain ⟨k, rfl⟩ : ∃ k : Nat, (k : Int) = b := ⟨b.toNat, by omega⟩
      obtain ⟨j, rfl⟩ : ∃ j : Nat, (j : Int) = i := ⟨i.toNat, by omega⟩
      have hd1 : d.size = S.size := by by_cases h1 : d.size = S.size; exact h1; exact absurd (.inl h1) hd
      have hd2 : t.size = 32 := by by_cases h1 : t.size = 32; exact h1; exact absurd (.inr h1) hd
      by_cases hE : sinE (S.blk k) (decide ((j : Int) ≠ (S.blk k).next)) = 0
      · have e1 : progT S (k : Int) (j : Int) d t = (progS S k j d t, progE S k) := by
          unfold progT
          rw [if_neg (fun h => h ha), if_neg hd, Int.toNat_natCast, Int.toNat_natCast, if_neg (fun h => h hE)]
        rw [e1]
        have h2 : (S.blk k).failed = false ∧ (S.blk k).mill = false ∧ (S.blk k).next = (j : Int) := by
          unfold sinE at hE
          by_cases h3 : (S.blk k).failed = true ∨ (S.blk k).mill = true
          · rw [if_pos h3] at hE; omega
          · rw [if_neg h3] at hE
            by_cases h4 : decide ((j : Int) ≠ (S.blk k).next) = true
            · rw [if_pos h4] at hE; omega
            · refine ⟨?_, ?_, ?_⟩
              · cases hq : (S.blk k).failed with
                | true => exact absurd (.inl hq) h3
                | false => rfl
              · cases hq : (S.blk k).mill with
                | true => exact absurd (.inr hq) h3
                | false => rfl
              · by_cases h5 : (j : Int) = (S.blk k).next
                · exact h5.symm
                · exact absurd (decide_eq_true h5) h4
        by_cases hfz : S.fuse = 1
        · exact rprog_cut hS k j d t w h ha hd1 hd2 h2.1 h2.2.1 h2.2.2 hfz hB
        · exact rprog_go hS k j d t w h ha hd1 hd2 h2.1 h2.2.1 h2.2.2 hfz
      · have e1 : progT S (k : Int) (j : Int) d t = (sinS S k (decide ((j : Int) ≠ (S.blk k).next)), sinE (S.blk k) (decide ((j : Int) ≠ (S.blk k).next))) := by
          unfold progT
          rw [if_neg (fun h => h ha), if_neg hd, Int.toNat_natCast, if_pos hE]
        rw [e1]
        exact rprog_sin hS k j d t w h ha hd1 hd2 hE
  · have e1 : progT S b i d t = (S, askE S b i) := by unfold progT; rw [if_pos ha]
    rw [e1]
    exact rprog_ask b i d t w h ha
end
end Go.Proofs.Ythippbckjldijaa
