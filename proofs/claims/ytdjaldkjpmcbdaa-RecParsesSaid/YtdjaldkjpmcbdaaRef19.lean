/-
  Layer 19: what the laws ask first; the document's Frame by contract.
-/
import Derived.Test.YtdjaldkjpmcbdaaRecs
import Derived.Test.YtdjaldkjpmcbdaaRef1
import Derived.Test.YtdjaldkjpmcbdaaRef2
namespace Go.Proofs.Ytdjaldkjpmcbdaa
set_option linter.unusedSimpArgs false
set_option linter.unusedVariables false
open Go.RowKit Go.WideShapes Go.ChangeShapes Go.ChangeAt

def wkL : List Rc := [(5, []), (6, [97, 98])]
theorem wk_right : ∀ r ∈ wkL, rightR r = true := by decide
theorem wk_parse : parseP (frameL wkL) = .ok wkL := by
  have h := parseP_frame wkL [] wk_right
  rw [List.append_nil, parseP_nil] at h
  rw [h]
  simp [Except.map]
theorem wk_recs (w : World) (h : Nat) (hh : w.heap[h]? = some (.cells #[.int .u8 5, .string ⟨#[]⟩, .int .u8 6, .string ⟨#[97, 98]⟩] 38 (0, 0))) : RecsIn w (some ⟨h, 0, none⟩) wkL := by
  intro i hi
  have hi2 : i = 0 ∨ i = 1 := by have : wkL.length = 2 := rfl; omega
  rcases hi2 with rfl | rfl
  · exact ⟨h, 0, rfl, heap_lt hh, cell_of_block hh 0, cell_of_block hh 1⟩
  · exact ⟨h, 0, rfl, heap_lt hh, cell_of_block hh 2, cell_of_block hh 3⟩
set_option maxRecDepth 100000 in
set_option maxHeartbeats 400000 in
theorem wakes19 (w : World) : Calls Try.prog 13 #[] w fun e w' => e = .returned (.bool true) ∧ Below w.heap.size w w' := by
  have z := (zero_of_info tab_zero).1
  have hsz := tabC_size 256
  have hst := tab_store
  have HMK := hide (fun W => make_any W)
  have hlen : (bs (frL wkL)).size = 16 := by
    rw [(fr_yes (L := wkL) (by decide)).1]
    decide +kernel
  have hcut : (bs (frL wkL)).extract 0 3 = ⟨#[0, 0, 5]⟩ := by
    rw [bs_to, (fr_yes (L := wkL) (by decide)).1]
    decide +kernel
  have HFR := hide (fun pb po h W (ht : TabAt W pb po) (hh : W.heap[h]? = some (.cells #[.int .u8 5, .string ⟨#[]⟩, .int .u8 6, .string ⟨#[97, 98]⟩] 38 (0, 0))) => frame_any pb po (some ⟨h, 0, none⟩) 2 wkL (by decide) (by decide) W ht (wk_recs W h hh))
  rw [show wkL.length = 2 from rfl, (fr_yes (L := wkL) (by decide)).2] at HFR
  have HPA := hide (fun pb po W (ht : TabAt W pb po) => recParse_any pb po (frL wkL) (by rw [← bs_size, hlen]; omega) W ht)
  rw [(fr_yes (L := wkL) (by decide)).1, wk_parse] at HPA
  rw [(fr_yes (L := wkL) (by decide)).1] at HFR hlen hcut
  have HSZ := hide (fun W => rec_size (5, []) (by simp) W)
  rw [show rightR (5, []) = true from rfl, if_pos rfl] at HSZ
  generalize bs (frameL wkL) = S at *
  go_enter Try.func13, Try.ntmps13
  go_wp2_with fail
  refine (HMK.out _).mono ?_
  rintro e w1 ⟨rfl, hb1⟩
  have HT2 := hide (tabAt_new w1)
  have HB2 := hide (hb1.alloc hb1.size (.cells (tabC 256) 25))
  have HT3 := hide (tabAt_kept HT2.out ((Below.refl (w1.alloc (.cells (tabC 256) 25)).heap.size (w1.alloc (.cells (tabC 256) 25))).alloc (Nat.le_refl _) (.cells #[.int .u8 5, .string ⟨#[]⟩, .int .u8 6, .string ⟨#[97, 98]⟩] 38)))
  have HB3 := hide (HB2.out.alloc HB2.out.size (.cells #[.int .u8 5, .string ⟨#[]⟩, .int .u8 6, .string ⟨#[97, 98]⟩] 38))
  have hs2 : (w1.alloc (.cells (tabC 256) 25)).heap.size = w1.heap.size + 1 := by simp
  have HR3 := hide (heap_new (w1.alloc (.cells (tabC 256) 25)) (.cells #[.int .u8 5, .string ⟨#[]⟩, .int .u8 6, .string ⟨#[97, 98]⟩] 38))
  rw [hs2] at HR3
  clear hb1 hs2
  go_wp2_with fail
  generalize World.alloc (w1.alloc (.cells (tabC 256) 25)) (.cells #[.int .u8 5, .string ⟨#[]⟩, .int .u8 6, .string ⟨#[97, 98]⟩] 38) = w3 at *
  generalize w1.heap.size = pb at *
  refine (HFR.out pb 0 _ _ HT3.out HR3.out).mono ?_
  rintro e w4 ⟨rfl, hb4⟩
  have HT4 := hide (tabAt_kept HT3.out hb4)
  have HB4 := hide (HB3.out.trans (hb4.mono HB3.out.size))
  clear hb4 HT3 HB3 HR3 HT2 HB2
  go_wp2_with fail
  refine (HPA.out pb 0 _ HT4.out).mono ?_
  rintro e w5 ⟨L, a, cap, c, rfl, hcase, hin, hb5⟩
  obtain ⟨rfl, rfl⟩ : L = wkL ∧ c = 0 := by
    rcases hcase with ⟨h1, h2⟩ | ⟨h1, -⟩
    · simp only [Except.ok.injEq] at h1; exact ⟨h1.symm, h2⟩
    · cases h1
  have HB5 := hide (HB4.out.trans (hb5.mono HB4.out.size))
  obtain ⟨b, off, rfl, -, c0, c1⟩ := hin 0 (by decide)
  obtain ⟨b', off', hbb, -, c2, c3⟩ := hin 1 (by decide)
  simp only [Option.some.injEq, Addr.mk.injEq, and_true] at hbb
  obtain ⟨rfl, rfl⟩ := hbb
  rw [show wkL.length = 2 from rfl]
  have c3' : w5.cell? ⟨b, off + 3, none⟩ = some (.string ⟨#[97, 98]⟩) := c3
  have c0' : w5.cell? ⟨b, off, none⟩ = some (.int .u8 5) := c0
  have c1' : w5.cell? ⟨b, off + 1, none⟩ = some (.string ⟨#[]⟩) := c1
  clear hcase hin hb5 c0 c1 c2 c3
  go_wp2_with fail
  refine (HSZ.out _).mono ?_
  rintro e w6 ⟨rfl, hb6⟩
  have HB6 := hide (HB5.out.trans (hb6.mono HB5.out.size))
  go_wp2_with fail
  go_ret
  exact ⟨rfl, HB6.out⟩
theorem rc_byte (k : UInt8) (w : World) : (convert 44 9 (.slice (some ⟨w.heap.size, 0, none⟩) 1 1)).run Try.prog (w.alloc (.cells #[.int .u8 (k.toNat : Int)] 5)) = .ok (.string (bs [k])) (w.alloc (.cells #[.int .u8 (k.toNat : Int)] 5)) := by
  have h := one_byte w k.toNat
  have hk := k.toNat_lt
  rw [Nat.mod_eq_of_lt hk, show ((k.toNat : Nat) : Int) % 256 = (k.toNat : Int) by omega, UInt8.ofNat_toNat] at h
  exact h
set_option maxRecDepth 100000 in
set_option maxHeartbeats 400000 in
theorem rframe_any (a : Option Addr) (cap : Nat) (L : List Rc) (hL : L.length ≤ 100000) (hlen : ∀ r ∈ L, r.2.length ≤ 4294967296) (w : World) (hin : RecsIn w a L) :
    Calls Try.prog 10 #[.slice a L.length cap] w fun e w' => e = .returned (.tuple #[.string (bs (frL L)), .int .i64 (frE L)]) ∧ Below w.heap.size w w' := by
  have HIN := hide hin
  have HLEN := hide hlen
  clear hin hlen
  go_enter Try.func10, Try.ntmps10
  go_wp2_with fail
  go_loopw [4, 5] (fun x i W => ∃ j : Nat, j ≤ L.length ∧ i = .int .i64 j ∧ x = .string (bs (frameL (L.take j))) ∧ Below w.heap.size w W ∧ ∀ r ∈ L.take j, rightR r = true) (fun _ i _ => L.length - (intOf i).toNat)
  case atStart => exact ⟨0, by omega, rfl, rfl, Below.refl _ _, fun r hr => by simp at hr⟩
  case round =>
    obtain ⟨j, hj, rfl, rfl, hbl, hok⟩ := hrel
    have HBL := hide hbl
    have HOK := hide hok
    clear hbl hok
    by_cases hlt : j < L.length
    · obtain ⟨b, off, rfl, hb, c0, c1⟩ := HIN.out j hlt
      have d0 := (HBL.out.cell (p := ⟨b, off + j * 2, none⟩) hb).trans c0
      have d1 := (HBL.out.cell (p := ⟨b, off + j * 2 + 1, none⟩) hb).trans c1
      have HNX := hide (congrArg bs (frameL_next L j hlt))
      have HTN := hide (takeR_next L j hlt)
      have hle := frameL_le (L.take j) HOK.out
      have hle2 : (L.take j).length = j := by simp; omega
      rw [hle2] at hle
      have hml : (L.getD j rc0).2.length ≤ 4294967296 := HLEN.out _ (by simp [List.getD, hlt])
      have HALL := hide (show rightR (L.getD j rc0) = false → L.all rightR = false from fun h => by
        rw [List.all_eq_false]
        exact ⟨L[j], List.getElem_mem _, by have : L.getD j rc0 = L[j] := by simp [List.getD, hlt]
                                            rw [this] at h; simp [h]⟩)
      clear c0 c1 hle2
      generalize L.getD j rc0 = r at *
      obtain ⟨k, l⟩ := r
      dsimp only at *
      have HBL1 := hide (HBL.out.alloc HBL.out.size (.cells #[.int .u8 (k.toNat : Int), .string (bs l)] 50))
      cases hr : rightR (k, l)
      · have HALL2 := hide (HALL.out hr)
        clear HALL HNX HTN
        have hcase : (k.toNat : Int) = 0 ∨ (¬ (k.toNat : Int) = 0 ∧ 2048 < ((bs l).size : Int)) := by
          by_cases h0 : k = 0
          · left; rw [h0]; rfl
          · right
            rw [bs_size]
            simp only [rightR, Bool.and_eq_false_iff, decide_eq_false_iff_not] at hr
            refine ⟨fun h => h0 ?_, by rcases hr with hr | hr; exact absurd h0 hr; omega⟩
            have : k.toNat = 0 := by omega
            exact UInt8.toNat_inj.1 this
        clear hr
        generalize bs l = s at *
        generalize (k.toNat : Int) = ki at *
        rcases hcase with rfl | ⟨hk, hs⟩
        · go_wp2_with fail
          go_ret2
          rw [(fr_no HALL2.out).1, (fr_no HALL2.out).2]
          exact ⟨rfl, HBL1.out⟩
        · have hkb : (ki == 0) = false := by rw [beq_eq_false_iff_ne]; exact hk
          go_wp2_with fail
          go_ret2
          rw [(fr_no HALL2.out).1, (fr_no HALL2.out).2]
          exact ⟨rfl, HBL1.out⟩
      · have hr2 := hr
        simp only [rightR, Bool.and_eq_true, decide_eq_true_eq] at hr2
        have hl2 : ¬ 2048 < ((bs l).size : Int) := by rw [bs_size]; have := hr2.2; omega
        have hk0 : ¬ (k.toNat : Int) = 0 := fun h => hr2.1 (by
          have : k.toNat = 0 := by omega
          exact UInt8.toNat_inj.1 this)
        have hkb : ((k.toNat : Int) == 0) = false := by rw [beq_eq_false_iff_ne]; exact hk0
        have hll := hr2.2
        have HHD := hide (show (bs (putL l.length 2) ++ bs [k]) ++ bs l = bs (headR (k, l)) by rw [bs_append, bs_append]; rfl)
        have HP2 := hide (fun W => rput_any ((bs l).size : Int) (by omega) (by rw [bs_size]; omega) 2 (by omega) (by omega) W)
        rw [show (2 : Int).toNat = 2 from rfl, Int.toNat_natCast, bs_size] at HP2
        have hw2 : IntKind.u64.wrap ((bs l).size : Int) = (l.length : Int) := by rw [bs_size]; exact wraps_u64 _ (by omega) (by omega)
        have hcv := fun W => rc_byte k W
        have hc1 : ¬ 9223372036854775807 < (bs (putL l.length 2)).size + (bs [k]).size := by rw [bs_size, bs_size, putL_length]; simp
        have hc2 : ¬ 9223372036854775807 < (bs (putL l.length 2)).size + (bs [k]).size + (bs l).size := by rw [bs_size, bs_size, bs_size, putL_length]; simp; omega
        have hhl := headR_length (k, l)
        have HHS := hide (show bs (recL (k, l)) = bs (headR (k, l)) ++ bs (putL (cN (headR (k, l))) 4) by rw [bs_append]; rfl)
        dsimp only at hhl
        have hc3 : ¬ 9223372036854775807 < (bs (frameL (L.take j))).size + (bs (headR (k, l))).size := by rw [bs_size, bs_size, hhl]; omega
        have hc4 : ¬ 9223372036854775807 < (bs (frameL (L.take j))).size + (bs (headR (k, l))).size + (bs (putL (cN (headR (k, l))) 4)).size := by rw [bs_size, bs_size, bs_size, hhl, putL_length]; omega
        have HSUM := hide (fun W => rsum_any (bs (headR (k, l))) (by rw [bs_size, hhl]; omega) W)
        rw [show (bs (headR (k, l))).data.toList = headR (k, l) from rfl] at HSUM
        have hcn := cN_le (headR (k, l))
        have HP4 := hide (fun W => rput_any (cN (headR (k, l)) : Int) (by omega) (by omega) 4 (by omega) (by omega) W)
        rw [show (4 : Int).toNat = 4 from rfl, Int.toNat_natCast] at HP4
        have HNX2 := hide (show bs (frameL (L.take (j + 1))) = bs (frameL (L.take j)) ++ bs (headR (k, l)) ++ bs (putL (cN (headR (k, l))) 4) by
          rw [HNX.out, bs_append, bs_append, List.append_assoc]; rfl)
        clear HALL hr2 hhl hle hcn HNX HHS
        generalize bs (putL (cN (headR (k, l))) 4) = s4 at *
        generalize bs (headR (k, l)) = sh at *
        generalize cN (headR (k, l)) = cn at *
        generalize bs (putL l.length 2) = s2 at *
        generalize bs [k] = s1 at *
        generalize bs l = s at *
        generalize bs (frameL (L.take j)) = f0 at *
        have HR1 := hide (rec_rows wr (k.toNat : Int) s 50)
        generalize (k.toNat : Int) = ki at *
        go_wp2_with fail
        refine (HP2.out _).mono ?_
        rintro e w2 ⟨rfl, hb2⟩
        have HBL2 := hide (HBL1.out.trans (hb2.mono HBL1.out.size))
        have hR2 := (hb2.block _ (heap_lt HR1.out)).trans HR1.out
        obtain ⟨e0, e1, -, -⟩ := rec_facts hR2
        have hrl := heap_lt hR2
        have he1 := (World.cell?_alloc_lt (w := w2) (o := .cells #[.int .u8 ki] 5) (a := ⟨wr.heap.size, 1, none⟩) hrl).trans e1
        have HBL3 := hide (HBL2.out.alloc HBL2.out.size (.cells #[.int .u8 ki] 5))
        clear hb2 hR2 HBL1 HBL HR1 d0 d1
        go_wp2_with fail
        rw [HHD.out]
        refine (HSUM.out _).mono ?_
        rintro e w3 ⟨rfl, rfl⟩
        go_wp2_with fail
        refine (HP4.out _).mono ?_
        rintro e w4 ⟨rfl, hb4⟩
        have HBL4 := hide (HBL3.out.trans (hb4.mono HBL3.out.size))
        clear hb4 HBL2 HBL3
        go_wp2_with fail
        go_roundw
        case rel =>
          refine ⟨j + 1, by omega, by go_num, by rw [HNX2.out], HBL4.out, fun x hx => ?_⟩
          rw [HTN.out, List.mem_append, List.mem_singleton] at hx
          rcases hx with hx | rfl
          · exact HOK.out x hx
          · exact hr
        case measure => simp [intOf]; omega
    · obtain rfl : j = L.length := by omega
      have HALL := hide (show L.all rightR = true by
        rw [List.all_eq_true]
        intro x hx
        exact HOK.out x (by rwa [List.take_length]))
      go_wp2_with fail
      go_ret2
      rw [(fr_yes HALL.out).1, (fr_yes HALL.out).2, List.take_length]
      exact ⟨rfl, HBL.out⟩
end Go.Proofs.Ytdjaldkjpmcbdaa
