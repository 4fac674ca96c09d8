/-
  Layer 5, the document's New, third part: the walk.
-/
import Derived.Test.YthippbckjldijaaRNand9b
--import Derived.Test.Zdbg
namespace Go.Proofs.Ythippbckjldijaa
set_option linter.unusedSimpArgs false
set_option linter.unusedVariables false
open Go.RowKit Go.WideShapes Go.ChangeShapes Go.ChangeAt Go.Deep

theorem flat_rep (v : Value) (n : Nat) : (List.replicate n ()).flatMap (fun _ => [v]) = List.replicate n v := by
  induction n with
  | zero => rfl
  | succ n ih => rw [List.replicate_succ, List.flatMap_cons, ih]; rfl
theorem made_str (n : Nat) (hn : n ≤ 2000) (W : World) : (Instr.makeSlice 82 (.int .i64 (n : Int)) (.int .i64 (n : Int))).run Try.prog W = .ok (.slice (some ⟨W.heap.size, 0, none⟩) n n) (W.alloc (.cells (List.replicate n (Value.string ⟨#[]⟩)).toArray 9)) := by
  have h := run_make_rows (P := Try.prog) 82 9 (z := .string ⟨#[]⟩) (B := 16) (k := 1) [.string ⟨#[]⟩] Try.underlying82 (by kernel_rfl) rfl rfl (by decide) n (by omega) (by omega) W
  rw [flat_rep] at h
  exact h
theorem made_bool (n : Nat) (hn : n ≤ 2000) (W : World) : (Instr.makeSlice 46 (.int .i64 (n : Int)) (.int .i64 (n : Int))).run Try.prog W = .ok (.slice (some ⟨W.heap.size, 0, none⟩) n n) (W.alloc (.cells (List.replicate n (Value.bool false)).toArray 4)) := by
  have h := run_make_rows (P := Try.prog) 46 4 (z := .bool false) (B := 1) (k := 1) [.bool false] Try.underlying46 (by kernel_rfl) rfl rfl (by decide) n (by omega) (by omega) W
  rw [flat_rep] at h
  exact h
theorem made_int (n : Nat) (hn : n ≤ 2000) (W : World) : (Instr.makeSlice 23 (.int .i64 (n : Int)) (.int .i64 (n : Int))).run Try.prog W = .ok (.slice (some ⟨W.heap.size, 0, none⟩) n n) (W.alloc (.cells (List.replicate n (Value.int .i64 0)).toArray 3)) :=
  run_make_nums 23 3 (B := 8) Try.underlying23 (by kernel_rfl) n n rfl (by omega) (by omega) W
theorem RefAt.bad3 {w : World} {c pq n e a f m cp B : Nat} {G : Nat → Nat} {S : ChipM} (h : RefAt w c pq n e a f m cp G B S) (k : Nat) (hk : k < S.L.length) :
    RefAt (((w.setCell ⟨a, k, none⟩ (.bool true)).setCell ⟨f, k, none⟩ (.bool true)).setCell ⟨m, k, none⟩ (.bool true)) c pq n e a f m cp G B (S.put k { S.blk k with weak := true, failed := true, mill := true }) := by
  have h1 := h.setWeak k hk
  have hb1 := blk_put_self S k { S.blk k with weak := true } hk
  have h2 := h1.setFail k (by rw [put_length]; exact hk) true
  rw [hb1, put_put, show (true || (S.blk k).mill) = true from rfl] at h2
  have hb2 := blk_put_self S k { S.blk k with weak := true, failed := true } hk
  have h3 := h2.setMill k (by rw [put_length]; exact hk) (by rw [hb2]) (by rw [hb2])
  rw [hb2, put_put] at h3
  exact h3
def headN (b p s : Nat) (v3 v4 v5 v6 v7 v8 : Value) : List Value := [.int .i64 (b : Int), .int .i64 (p : Int), .int .i64 (s : Int), v3, v4, v5, v6, v7, v8, .int .i64 0, .string ⟨#[]⟩, .bool false, .int .i64 0, .int .i64 0, .int .i64 0]
def nilS : Value := .slice none 0 0
set_option maxRecDepth 100000 in
set_option maxHeartbeats 2000000 in
theorem rnew_any (b p s : Nat) (hb : 4 ≤ b ∧ b ≤ 256) (hp : 1 ≤ p ∧ p ≤ 64) (hs : 32 ≤ s ∧ s ≤ 1024) (L : List Int) (v : Value) (w : World) (hv : NumsAt w .i64 v L) (hL : L.length ≤ 1000000) :
    Calls Try.prog 9 #[.int .i64 (b : Int), .int .i64 (p : Int), .int .i64 (s : Int), v] w fun x w' => ∃ c pq n e a f m cp G, x = .returned (.pointer (some ⟨c, 0, none⟩)) ∧ RefAt w' c pq n e a f m cp G w.heap.size (badS (newS b p s) L) ∧ Below w.heap.size w w' := by
  obtain ⟨ix, hix, hz0, hz1, hz2⟩ := info_parts (show (Try.prog.info? 82).map (fun i => (i.zero, i.size, i.bytes)) = some (some (.slice none 0 0), 1, 24) by kernel_rfl)
  have HI := hide hix
  have HZ0 := hide hz0
  have HZ1 := hide hz1
  have HZ2 := hide hz2
  obtain ⟨va, vc, rfl, hva⟩ := nums_in hv
  have HVA := hide hva
  clear hix hz0 hz1 hz2 hva hv
  have HMS := hide (fun W => made_str p (by omega) W)
  have HMI := hide (fun W => made_int b (by omega) W)
  have HMB := hide (fun W => made_bool b (by omega) W)
  go_enter Try.func9, Try.ntmps9
  go_wp2_with fail
  obtain ⟨o0, ho0⟩ : ∃ o0, o0 = Obj.cells #[.int .i64 (b : Int), .int .i64 (p : Int), .int .i64 (s : Int), .slice none 0 0, .slice none 0 0, .slice none 0 0, .slice none 0 0, .slice none 0 0, .slice none 0 0, .int .i64 0, .string ⟨#[]⟩, .bool false, .int .i64 0, .int .i64 0, .int .i64 0] 48 := ⟨_, rfl⟩
  rw [← ho0]
  have X0 := hide (show (w.alloc o0).heap[w.heap.size]? = some (.cells (headN b p s nilS nilS nilS nilS nilS nilS).toArray 48 (0, 0)) by rw [heap_new, ho0]; rfl)
  have B0 := hide ((Below.refl w.heap.size w).alloc (Nat.le_refl _) o0)
  have HEQ := hide (show w.heap.size = w.heap.size from rfl)
  generalize w.alloc o0 = w0 at *
  obtain ⟨c, hc⟩ : ∃ c, w.heap.size = c := ⟨_, rfl⟩
  have HC := hide hc
  rw [hc] at X0 B0 ⊢
  clear hc ho0 o0
  refine (blank_any (c := c) s hs.2 w0 (cell_of_block X0.out 2)).mono ?_
  rintro e0 w1 ⟨rfl, hb1⟩
  have N1 := hide (show NewAt w1 c (fun i => i) (fillZ (s + 32) 255) p 0 (headN b p s nilS nilS nilS nilS nilS nilS) none 0 from ⟨(hb1.block _ (heap_lt X0.out)).trans X0.out, World.ownsRow_nil _ _ _ _, fun i hi => absurd hi (Nat.not_lt_zero i), fun i j hi => absurd hi (Nat.not_lt_zero i)⟩)
  have B1 := hide (B0.out.trans (hb1.mono (Nat.le_of_lt (heap_lt X0.out))))
  clear hb1 X0 B0
  generalize hnz : fillZ (s + 32) 255 = nz at *
  have HNZ := hide hnz
  clear hnz
  go_wp2_with fail
  go_loopw [11] (fun x W => ∃ (k : Nat) (G : Nat → Nat) (a3 : Option Addr) (c3 : Nat), k ≤ b ∧ x = .int .i64 k ∧ NewAt W c G nz p k (headN b p s (.slice a3 k c3) nilS nilS nilS nilS nilS) a3 c3 ∧ Below c w W) (fun x _ => b - (intOf x).toNat)
  case atStart => exact ⟨0, fun i => i, none, 0, by omega, rfl, N1.out, B1.out⟩
  case round =>
    clear N1 B1
    obtain ⟨k, G, a3, c3, hk, rfl, hn, hbl⟩ := hrel
    have NK := hide hn
    have BK := hide hbl
    clear hn hbl
    by_cases hlt : k < b
    · obtain ⟨o1, ho1⟩ : ∃ o1, o1 = Obj.cells (List.replicate p (Value.string ⟨#[]⟩)).toArray 9 := ⟨_, rfl⟩
      have XG := hide (show (wr.alloc o1).heap[wr.heap.size]? = some (.cells (List.replicate p (Value.string ⟨#[]⟩)).toArray 9 (0, 0)) from (heap_new wr o1).trans (by rw [ho1]))
      have BG := hide ((Below.refl wr.heap.size wr).alloc (Nat.le_refl _) o1)
      have hms2 := HMS.out wr
      rw [← ho1] at hms2
      have HGC := hide (heap_lt NK.out.head)
      have HPL := hide (fun i hi => heap_lt (NK.out.page i hi).1)
      generalize wr.alloc o1 = w2 at *
      obtain ⟨g, hg⟩ : ∃ g, wr.heap.size = g := ⟨_, rfl⟩
      have HG := hide hg
      rw [hg] at XG BG hms2 HGC HPL
      clear hg ho1 o1
      obtain ⟨wo, rfl⟩ : ∃ wo, wo = wr := ⟨_, rfl⟩
      go_wp2_with fail
      clear hms2
      go_loopw [13] (fun x W => ∃ (j : Nat) (C : Array Value), j ≤ p ∧ x = .int .i64 j ∧ W.heap[g]? = some (.cells C 9 (0, 0)) ∧ C.size = p ∧ (∀ i, i < j → C[i]? = some (.string nz)) ∧ Below g wo W) (fun x _ => p - (intOf x).toNat)
      case atStart => exact ⟨0, _, by omega, rfl, XG.out, by simp, fun i hi => absurd hi (Nat.not_lt_zero i), BG.out⟩
      case round =>
        clear XG BG
        obtain ⟨j, C, hj, rfl, h1, h2, h3, h4⟩ := hrel
        have H3 := hide h3
        have H4 := hide h4
        clear h3 h4
        by_cases hlj : j < p
        · have ck := cell_of_block h1 j
          rw [Array.getElem?_eq_getElem (by omega)] at ck
          have fk := frozen_of_block h1 j
          have HN1 := hide (block_setCell h1 j (.string nz))
          have HB1 := hide (H4.out.setCell (p := ⟨g, j, none⟩) (Nat.le_refl g) (.string nz))
          clear h1
          go_wp2_with fail
          go_roundw
          case rel => exact ⟨j + 1, _, by omega, by go_num, HN1.out, by simpa using h2, fun i hi => by
            rw [Array.getElem?_setIfInBounds]
            by_cases e : j = i
            · subst e; rw [if_pos rfl, if_pos (by omega)]
            · rw [if_neg e]; exact H3.out i (by omega), HB1.out⟩
          case measure => simp [intOf]; omega
        · obtain rfl : p = j := by omega
          have hCe : C = (List.replicate p (Value.string nz)).toArray := by
            apply Array.ext
            · simp [h2]
            · intro i hi1 hi2
              have h5 := H3.out i (by omega)
              rw [Array.getElem?_eq_getElem hi1] at h5
              simpa using h5
          rw [hCe] at h1
          have XGp := hide h1
          have N2 := hide (NK.out.below (by rw [HG.out]; exact H4.out))
          have BW := hide (BK.out.trans (H4.out.mono (Nat.le_of_lt HGC.out)))
          clear h1 hCe h2 H3 H4 NK BK
          obtain ⟨o2, ho2⟩ : ∃ o2, o2 = Obj.cells #[.slice (some ⟨g, 0, none⟩) p p] 82 := ⟨_, rfl⟩
          have hal := (Below.refl wr.heap.size wr).alloc (Nat.le_refl _) o2
          have N3 := hide (N2.out.below hal)
          have XG3 := hide ((hal.block _ (heap_lt XGp.out)).trans XGp.out)
          have XB := hide (show (wr.alloc o2).heap[wr.heap.size]? = some (.cells #[.slice (some ⟨g, 0, none⟩) p p] 82 (0, 0)) from by rw [heap_new, ho2])
          have BA := hide (BW.out.alloc (Nat.le_of_lt (heap_lt N2.out.head)) o2)
          rw [ho2] at N3 XG3 XB BA
          have hcz : c + 1 ≤ (wr.alloc (Obj.cells #[.slice (some ⟨g, 0, none⟩) p p] 82)).heap.size := heap_lt N3.out.head
          have HGN := hide (show ∀ i, i < k → G i ≠ g from fun i hi => Nat.ne_of_lt (HPL.out i hi))
          have cc3 : wr.cell? ⟨c, 3, none⟩ = some (.slice a3 k c3) := N2.out.cell 3
          have hb256 := hb.2
          clear hal ho2 o2 XGp BW HPL
          go_wp2_with (at_builtin; refine wpList_append_own2 _ rfl _ _ 45 rfl (c + 1) 82 ix (.slice none 0 0) 1 24 Try.underlying45 HI.out HZ0.out HZ1.out HZ2.out rfl (by decide) (.slice a3 k c3) k (rowsG G p k) rfl N3.out.own ⟨wr.heap.size, 0, none⟩ 1 1 (by decide) [.slice (some ⟨g, 0, none⟩) p p] rfl rfl (cells_new XB.out) (by intro u hu; simp at hu; subst hu; rfl) (by unfold maxLen; omega) (by omega) hcz ?_; intro g3 c3' w' ho hgr hnil; have N4 := hide (N3.out.next XG3.out HGC.out HGN.out ho (KeepsT.grown N3.out.own (by simp) hgr)); have B4 := hide ((BA.out.grown hgr (Nat.le_of_lt (heap_lt N3.out.head)) (fun j h => Nat.le_of_succ_le (N3.out.own.lt j h).1)).setCell (p := ⟨c, 3, none⟩) (Nat.le_refl c) (.slice (some ⟨g3, 0, none⟩) (k + 1) c3')); have hw3 := (KeepsT.grown N3.out.own (Ts := [82]) (by simp) hgr).cells N3.out.head (by simp); have cw3 := cell_of_block hw3 3; have fw3 := frozen_of_block hw3 3; clear ho hgr hnil hw3)
          go_roundw
          case rel => exact ⟨k + 1, _, _, _, by omega, by go_num, N4.out, B4.out⟩
          case measure => simp [intOf]; omega
    · obtain rfl : b = k := by omega
      have hz9 := HNZ.out
      subst hz9
      have hcs := heap_lt NK.out.head
      obtain ⟨o0, ho0⟩ : ∃ o0, o0 = Obj.cells (List.replicate b (Value.int .i64 0)).toArray 3 := ⟨_, rfl⟩
      have hm0 := HMI.out (wr)
      rw [← ho0] at hm0
      have hal := (Below.refl (wr).heap.size (wr)).alloc (Nat.le_refl _) o0
      have NA0 := NK.out.below hal
      have BA0 := BK.out.alloc (Nat.le_of_lt (heap_lt NK.out.head)) o0
      have XA0_0 : ((wr).alloc o0).heap[(wr).heap.size]? = some (.cells (List.replicate b (Value.int .i64 0)).toArray 3 (0, 0)) := by rw [heap_new, ho0]
      have hc0 := heap_lt NK.out.head
      clear hal
      generalize (wr).alloc o0 = v0 at *
      generalize (wr).heap.size = n at *
      clear ho0 o0
      have cc0 := NA0.cell 4
      have ff0 := NA0.free 4
      have N0 := hide (NA0.setHead 4 (.slice (some ⟨n, 0, none⟩) b b))
      have B0 := hide (BA0.setCell (p := ⟨c, 4, none⟩) (Nat.le_refl c) (.slice (some ⟨n, 0, none⟩) b b))
      have X0_0 := (block_setCell_other (show c ≠ n by omega) 4 (.slice (some ⟨n, 0, none⟩) b b)).trans XA0_0
      obtain ⟨o1, ho1⟩ : ∃ o1, o1 = Obj.cells (List.replicate b (Value.int .i64 0)).toArray 3 := ⟨_, rfl⟩
      have hm1 := HMI.out (v0.setCell ⟨c, 4, none⟩ (.slice (some ⟨n, 0, none⟩) b b))
      rw [← ho1] at hm1
      have hal := (Below.refl (v0.setCell ⟨c, 4, none⟩ (.slice (some ⟨n, 0, none⟩) b b)).heap.size (v0.setCell ⟨c, 4, none⟩ (.slice (some ⟨n, 0, none⟩) b b))).alloc (Nat.le_refl _) o1
      have NA1 := N0.out.below hal
      have BA1 := B0.out.alloc (Nat.le_of_lt (heap_lt N0.out.head)) o1
      have XA1_1 : ((v0.setCell ⟨c, 4, none⟩ (.slice (some ⟨n, 0, none⟩) b b)).alloc o1).heap[(v0.setCell ⟨c, 4, none⟩ (.slice (some ⟨n, 0, none⟩) b b)).heap.size]? = some (.cells (List.replicate b (Value.int .i64 0)).toArray 3 (0, 0)) := by rw [heap_new, ho1]
      have hc1 := heap_lt N0.out.head
      have XA1_0 := (hal.block _ (heap_lt X0_0)).trans X0_0
      have hlt1_0 := heap_lt X0_0
      clear hal
      generalize (v0.setCell ⟨c, 4, none⟩ (.slice (some ⟨n, 0, none⟩) b b)).alloc o1 = v1 at *
      generalize (v0.setCell ⟨c, 4, none⟩ (.slice (some ⟨n, 0, none⟩) b b)).heap.size = e at *
      clear ho1 o1
      have cc1 := NA1.cell 5
      have ff1 := NA1.free 5
      have N1 := hide (NA1.setHead 5 (.slice (some ⟨e, 0, none⟩) b b))
      have B1 := hide (BA1.setCell (p := ⟨c, 5, none⟩) (Nat.le_refl c) (.slice (some ⟨e, 0, none⟩) b b))
      have X1_0 := (block_setCell_other (show c ≠ n by omega) 5 (.slice (some ⟨e, 0, none⟩) b b)).trans XA1_0
      have X1_1 := (block_setCell_other (show c ≠ e by omega) 5 (.slice (some ⟨e, 0, none⟩) b b)).trans XA1_1
      obtain ⟨o2, ho2⟩ : ∃ o2, o2 = Obj.cells (List.replicate b (Value.bool false)).toArray 4 := ⟨_, rfl⟩
      have hm2 := HMB.out (v1.setCell ⟨c, 5, none⟩ (.slice (some ⟨e, 0, none⟩) b b))
      rw [← ho2] at hm2
      have hal := (Below.refl (v1.setCell ⟨c, 5, none⟩ (.slice (some ⟨e, 0, none⟩) b b)).heap.size (v1.setCell ⟨c, 5, none⟩ (.slice (some ⟨e, 0, none⟩) b b))).alloc (Nat.le_refl _) o2
      have NA2 := N1.out.below hal
      have BA2 := B1.out.alloc (Nat.le_of_lt (heap_lt N1.out.head)) o2
      have XA2_2 : ((v1.setCell ⟨c, 5, none⟩ (.slice (some ⟨e, 0, none⟩) b b)).alloc o2).heap[(v1.setCell ⟨c, 5, none⟩ (.slice (some ⟨e, 0, none⟩) b b)).heap.size]? = some (.cells (List.replicate b (Value.bool false)).toArray 4 (0, 0)) := by rw [heap_new, ho2]
      have hc2 := heap_lt N1.out.head
      have XA2_0 := (hal.block _ (heap_lt X1_0)).trans X1_0
      have hlt2_0 := heap_lt X1_0
      have XA2_1 := (hal.block _ (heap_lt X1_1)).trans X1_1
      have hlt2_1 := heap_lt X1_1
      clear hal
      generalize (v1.setCell ⟨c, 5, none⟩ (.slice (some ⟨e, 0, none⟩) b b)).alloc o2 = v2 at *
      generalize (v1.setCell ⟨c, 5, none⟩ (.slice (some ⟨e, 0, none⟩) b b)).heap.size = a at *
      clear ho2 o2
      have cc2 := NA2.cell 6
      have ff2 := NA2.free 6
      have N2 := hide (NA2.setHead 6 (.slice (some ⟨a, 0, none⟩) b b))
      have B2 := hide (BA2.setCell (p := ⟨c, 6, none⟩) (Nat.le_refl c) (.slice (some ⟨a, 0, none⟩) b b))
      have X2_0 := (block_setCell_other (show c ≠ n by omega) 6 (.slice (some ⟨a, 0, none⟩) b b)).trans XA2_0
      have X2_1 := (block_setCell_other (show c ≠ e by omega) 6 (.slice (some ⟨a, 0, none⟩) b b)).trans XA2_1
      have X2_2 := (block_setCell_other (show c ≠ a by omega) 6 (.slice (some ⟨a, 0, none⟩) b b)).trans XA2_2
      obtain ⟨o3, ho3⟩ : ∃ o3, o3 = Obj.cells (List.replicate b (Value.bool false)).toArray 4 := ⟨_, rfl⟩
      have hm3 := HMB.out (v2.setCell ⟨c, 6, none⟩ (.slice (some ⟨a, 0, none⟩) b b))
      rw [← ho3] at hm3
      have hal := (Below.refl (v2.setCell ⟨c, 6, none⟩ (.slice (some ⟨a, 0, none⟩) b b)).heap.size (v2.setCell ⟨c, 6, none⟩ (.slice (some ⟨a, 0, none⟩) b b))).alloc (Nat.le_refl _) o3
      have NA3 := N2.out.below hal
      have BA3 := B2.out.alloc (Nat.le_of_lt (heap_lt N2.out.head)) o3
      have XA3_3 : ((v2.setCell ⟨c, 6, none⟩ (.slice (some ⟨a, 0, none⟩) b b)).alloc o3).heap[(v2.setCell ⟨c, 6, none⟩ (.slice (some ⟨a, 0, none⟩) b b)).heap.size]? = some (.cells (List.replicate b (Value.bool false)).toArray 4 (0, 0)) := by rw [heap_new, ho3]
      have hc3 := heap_lt N2.out.head
      have XA3_0 := (hal.block _ (heap_lt X2_0)).trans X2_0
      have hlt3_0 := heap_lt X2_0
      have XA3_1 := (hal.block _ (heap_lt X2_1)).trans X2_1
      have hlt3_1 := heap_lt X2_1
      have XA3_2 := (hal.block _ (heap_lt X2_2)).trans X2_2
      have hlt3_2 := heap_lt X2_2
      clear hal
      generalize (v2.setCell ⟨c, 6, none⟩ (.slice (some ⟨a, 0, none⟩) b b)).alloc o3 = v3 at *
      generalize (v2.setCell ⟨c, 6, none⟩ (.slice (some ⟨a, 0, none⟩) b b)).heap.size = f at *
      clear ho3 o3
      have cc3 := NA3.cell 7
      have ff3 := NA3.free 7
      have N3 := hide (NA3.setHead 7 (.slice (some ⟨f, 0, none⟩) b b))
      have B3 := hide (BA3.setCell (p := ⟨c, 7, none⟩) (Nat.le_refl c) (.slice (some ⟨f, 0, none⟩) b b))
      have X3_0 := (block_setCell_other (show c ≠ n by omega) 7 (.slice (some ⟨f, 0, none⟩) b b)).trans XA3_0
      have X3_1 := (block_setCell_other (show c ≠ e by omega) 7 (.slice (some ⟨f, 0, none⟩) b b)).trans XA3_1
      have X3_2 := (block_setCell_other (show c ≠ a by omega) 7 (.slice (some ⟨f, 0, none⟩) b b)).trans XA3_2
      have X3_3 := (block_setCell_other (show c ≠ f by omega) 7 (.slice (some ⟨f, 0, none⟩) b b)).trans XA3_3
      obtain ⟨o4, ho4⟩ : ∃ o4, o4 = Obj.cells (List.replicate b (Value.bool false)).toArray 4 := ⟨_, rfl⟩
      have hm4 := HMB.out (v3.setCell ⟨c, 7, none⟩ (.slice (some ⟨f, 0, none⟩) b b))
      rw [← ho4] at hm4
      have hal := (Below.refl (v3.setCell ⟨c, 7, none⟩ (.slice (some ⟨f, 0, none⟩) b b)).heap.size (v3.setCell ⟨c, 7, none⟩ (.slice (some ⟨f, 0, none⟩) b b))).alloc (Nat.le_refl _) o4
      have NA4 := N3.out.below hal
      have BA4 := B3.out.alloc (Nat.le_of_lt (heap_lt N3.out.head)) o4
      have XA4_4 : ((v3.setCell ⟨c, 7, none⟩ (.slice (some ⟨f, 0, none⟩) b b)).alloc o4).heap[(v3.setCell ⟨c, 7, none⟩ (.slice (some ⟨f, 0, none⟩) b b)).heap.size]? = some (.cells (List.replicate b (Value.bool false)).toArray 4 (0, 0)) := by rw [heap_new, ho4]
      have hc4 := heap_lt N3.out.head
      have XA4_0 := (hal.block _ (heap_lt X3_0)).trans X3_0
      have hlt4_0 := heap_lt X3_0
      have XA4_1 := (hal.block _ (heap_lt X3_1)).trans X3_1
      have hlt4_1 := heap_lt X3_1
      have XA4_2 := (hal.block _ (heap_lt X3_2)).trans X3_2
      have hlt4_2 := heap_lt X3_2
      have XA4_3 := (hal.block _ (heap_lt X3_3)).trans X3_3
      have hlt4_3 := heap_lt X3_3
      clear hal
      generalize (v3.setCell ⟨c, 7, none⟩ (.slice (some ⟨f, 0, none⟩) b b)).alloc o4 = v4 at *
      generalize (v3.setCell ⟨c, 7, none⟩ (.slice (some ⟨f, 0, none⟩) b b)).heap.size = m at *
      clear ho4 o4
      have cc4 := NA4.cell 8
      have ff4 := NA4.free 8
      have N4 := hide (NA4.setHead 8 (.slice (some ⟨m, 0, none⟩) b b))
      have B4 := hide (BA4.setCell (p := ⟨c, 8, none⟩) (Nat.le_refl c) (.slice (some ⟨m, 0, none⟩) b b))
      have X4_0 := (block_setCell_other (show c ≠ n by omega) 8 (.slice (some ⟨m, 0, none⟩) b b)).trans XA4_0
      have X4_1 := (block_setCell_other (show c ≠ e by omega) 8 (.slice (some ⟨m, 0, none⟩) b b)).trans XA4_1
      have X4_2 := (block_setCell_other (show c ≠ a by omega) 8 (.slice (some ⟨m, 0, none⟩) b b)).trans XA4_2
      have X4_3 := (block_setCell_other (show c ≠ f by omega) 8 (.slice (some ⟨m, 0, none⟩) b b)).trans XA4_3
      have X4_4 := (block_setCell_other (show c ≠ m by omega) 8 (.slice (some ⟨m, 0, none⟩) b b)).trans XA4_4
      obtain ⟨pq, hpq⟩ : ∃ pq, a3 = some ⟨pq, 0, none⟩ := by
        rcases NK.out.own.2 with ⟨hv, hn⟩ | ⟨g, cap', cur, hv, hx⟩
        · omega
        · simp only [Value.slice.injEq] at hv
          exact ⟨g, hv.1⟩
      have hRF := N4.out.ref (n := n) (e := e) (a := a) (f := f) (m := m) (s := s) (by omega) hb.2 hp.2 pq hpq (by rw [hpq]; unfold refC; rw [newS_len]; rfl) X4_0 X4_1 X4_2 X4_3 X4_4 (by omega) (by omega)
      have R0 := hide hRF
      have B9 := hide B4.out
      go_wp2_with fail
      clear hcs hRF
      generalize v4.setCell ⟨c, 8, none⟩ (.slice (some ⟨m, 0, none⟩) b b) = w5 at *
      go_loopw [14] (fun x W => ∃ j : Nat, j ≤ L.length ∧ x = .int .i64 j ∧ RefAt W c pq n e a f m c3 G c (badS (newS b p s) (L.take j)) ∧ Below c w W) (fun x _ => L.length - (intOf x).toNat)
      case atStart => exact ⟨0, by omega, rfl, R0.out, B9.out⟩
      case round =>
        obtain ⟨j, hj, rfl, hr, hbw⟩ := hrel
        have RJ := hide hr
        have BJ := hide hbw
        clear hr hbw
        by_cases hlj : j < L.length
        · have hva9 := HVA.out j hlj
          obtain ⟨vb, vo, rfl, hvb, hvc⟩ := hva9
          have cz : wr.cell? ⟨vb, vo + j, none⟩ = some (.int .i64 (L.getD j 0)) := cell_keep hvc hvb (by rw [HC.out]; exact BJ.out)
          have HSN := hide (badS_snoc (newS b p s) L j hlj)
          have hlS : (badS (newS b p s) (L.take j)).L.length = b := by rw [badS_len, newS_len]
          have HFI := hide ((new_first b p s hp.1).all (L.take j))
          have hpS : (badS (newS b p s) (L.take j)).pgs = p := by rw [badS_pgs]; rfl
          have hbS : (badS (newS b p s) (L.take j)).blank = filledP s ffB := by rw [badS_blank]; rfl
          clear hvc HVA
          generalize L.getD j 0 = z at *
          generalize badS (newS b p s) (L.take j) = SJ at *
          by_cases hz : 0 ≤ z ∧ z < (b : Int)
          · obtain ⟨kz, rfl⟩ : ∃ kz : Nat, (kz : Int) = z := ⟨z.toNat, by omega⟩
            have hkz : kz < SJ.L.length := by omega
            have c6 : wr.cell? ⟨c, 6, none⟩ = some (.slice (some ⟨a, 0, none⟩) b b) := by rw [← hlS]; exact RJ.out.cell 6
            have c7 : wr.cell? ⟨c, 7, none⟩ = some (.slice (some ⟨f, 0, none⟩) b b) := by rw [← hlS]; exact RJ.out.cell 7
            have c8 : wr.cell? ⟨c, 8, none⟩ = some (.slice (some ⟨m, 0, none⟩) b b) := by rw [← hlS]; exact RJ.out.cell 8
            have c3c : wr.cell? ⟨c, 3, none⟩ = some (.slice (some ⟨pq, 0, none⟩) b c3) := by rw [← hlS]; exact RJ.out.cell 3
            obtain ⟨da, fa⟩ := RJ.out.at_weak kz hkz
            obtain ⟨df, ffz⟩ := RJ.out.at_fail kz hkz
            obtain ⟨dm, fm⟩ := RJ.out.at_mill kz hkz
            have dr := RJ.out.at_row kz hkz
            rw [hpS] at dr
            obtain ⟨e0, e1⟩ := RJ.out.at_page kz hkz 0 (by omega)
            obtain ⟨cur, hr1, -⟩ := RJ.out.rows
            have n1 : ¬ a = c := ne_of_type RJ.out.weak RJ.out.head (by decide)
            have n2 : ¬ f = c := ne_of_type RJ.out.fail RJ.out.head (by decide)
            have n3 : ¬ m = c := ne_of_type RJ.out.mill RJ.out.head (by decide)
            have n4 : ¬ a = pq := ne_of_type RJ.out.weak hr1 (by decide)
            have n5 : ¬ f = pq := ne_of_type RJ.out.fail hr1 (by decide)
            have n6 : ¬ m = pq := ne_of_type RJ.out.mill hr1 (by decide)
            have n7 : ¬ a = f := RJ.out.ne.2.1
            have n8 : ¬ a = m := RJ.out.ne.2.2.1
            have n9 : ¬ f = m := RJ.out.ne.2.2.2
            have n10 : ¬ a = G kz := ne_of_type RJ.out.weak (RJ.out.page kz hkz) (by decide)
            have n11 : ¬ f = G kz := ne_of_type RJ.out.fail (RJ.out.page kz hkz) (by decide)
            have n12 : ¬ m = G kz := ne_of_type RJ.out.mill (RJ.out.page kz hkz) (by decide)
            have HBD := hide (RJ.out.bad kz hkz ((fillZ (s + 32) 255).extract 0 s ++ ⟨#[0]⟩ ++ (fillZ (s + 32) 255).extract (s + 1) (s + 32)) (by rw [(HFI.out kz hkz).2, hbS]; exact bad_text s))
            have HBO := hide (show badOne SJ (kz : Int) = millS SJ kz by unfold badOne; rw [if_pos (by omega), Int.toNat_natCast])
            have hbs := RJ.out.base
            have HBW := hide (((((BJ.out.setCell (p := ⟨a, kz, none⟩) hbs.2.2.2.2.1 (.bool true)).setCell (p := ⟨f, kz, none⟩) hbs.2.2.2.2.2.1 (.bool true)).setCell (p := ⟨m, kz, none⟩) hbs.2.2.2.2.2.2.1 (.bool true)).drew).setCell (p := ⟨G kz, 0, none⟩) (hbs.2.2.2.2.2.2.2 kz hkz) (.string ((fillZ (s + 32) 255).extract 0 s ++ ⟨#[0]⟩ ++ (fillZ (s + 32) 255).extract (s + 1) (s + 32))))
            have hsz := fillZ_size (s + 32) 255
            have hwz : IntKind.i64.wrap ((s : Int) + 1) = (s : Int) + 1 := by rw [IntKind.wrap_i64]; omega
            have hs1 : (s : Int) ≤ ((fillZ (s + 32) 255).size : Int) := by rw [hsz]; omega
            have hs2 : (s : Int) + 1 ≤ ((fillZ (s + 32) 255).size : Int) := by rw [hsz]; omega
            have hq1 : ((fillZ (s + 32) 255).extract 0 s).size = s := by rw [ByteArray.size_extract, hsz]; omega
            have hq2 : ((fillZ (s + 32) 255).extract (s + 1) (s + 32)).size = 31 := by rw [ByteArray.size_extract, hsz]; omega
            clear hr1 HFI hbs hz
            generalize fillZ (s + 32) 255 = nz at *
            have R3 := RJ.out.bad3 kz hkz
            have hl3 : (SJ.put kz { SJ.blk kz with weak := true, failed := true, mill := true }).L.length = b := by rw [put_length]; exact hlS
            have z3 : (((wr.setCell ⟨a, kz, none⟩ (.bool true)).setCell ⟨f, kz, none⟩ (.bool true)).setCell ⟨m, kz, none⟩ (.bool true)).cell? ⟨c, 3, none⟩ = some (.slice (some ⟨pq, 0, none⟩) b c3) := by rw [← hl3]; exact R3.cell 3
            have zr := R3.at_row kz (by rw [hl3]; omega)
            rw [show (SJ.put kz { SJ.blk kz with weak := true, failed := true, mill := true }).pgs = p from hpS] at zr
            obtain ⟨zp, zf⟩ := R3.at_page kz (by rw [hl3]; omega) 0 (by rw [show (SJ.put kz { SJ.blk kz with weak := true, failed := true, mill := true }).pgs = p from hpS]; omega)
            clear R3 hl3
            have hs3 : (s : Int) ≤ (s : Int) + 32 := by omega
            have hs4 : (s : Int) + 1 ≤ (s : Int) + 32 := by omega
            have hs8 : 0 < p := by omega
            have hs7 : (0 : Int) ≤ (s : Int) + 1 := by omega
            have hs5 : ¬ (9223372036854775807 < s + 1) := by omega
            have hs6 : ¬ (9223372036854775807 < s + 1 + 31) := by omega
            go_upto_region 25 with (fail)
            generalize ((wr.setCell ⟨a, kz, none⟩ (.bool true)).setCell ⟨f, kz, none⟩ (.bool true)).setCell ⟨m, kz, none⟩ (.bool true) = v0 at *
            clear cz c6 c7 c8 c3c da fa df ffz dm fm dr e0 e1 n1 n2 n3 n4 n5 n6 n7 n8 n9 n10 n11 n12
            go_still_tail 17, (by kernel_rfl)
            change wpList _ _ _ _ _ v0.drew
            go_wp2_with fail
            go_roundw
            case rel => exact ⟨j + 1, by omega, by go_num, by rw [HSN.out, HBO.out]; exact HBD.out.keeps (fun _ _ _ _ e _ => e), HBW.out⟩
            case measure => simp [intOf]; omega
          · have HBO := hide (show badOne SJ z = SJ by unfold badOne; rw [if_neg (by omega)])
            by_cases hz1 : z < 0
            · go_wp2_with fail
              go_roundw
              case rel => exact ⟨j + 1, by omega, by go_num, by rw [HSN.out, HBO.out]; exact RJ.out, BJ.out⟩
              case measure => simp [intOf]; omega
            · have hz2 : (b : Int) ≤ z := by omega
              go_wp2_with fail
              go_roundw
              case rel => exact ⟨j + 1, by omega, by go_num, by rw [HSN.out, HBO.out]; exact RJ.out, BJ.out⟩
              case measure => simp [intOf]; omega
        · obtain rfl : j = L.length := by omega
          have hr := RJ.out
          rw [List.take_length] at hr
          have HR := hide hr
          clear hr
          go_wp2_with fail
          go_ret
          rw [HC.out]
          exact ⟨c, pq, n, e, a, f, m, c3, G, rfl, HR.out, BJ.out⟩
end Go.Proofs.Ythippbckjldijaa
