/-
  Layer 25: the document's number and one.
-/
import Derived.Test.YtbnbfnlfgmlcgaaRSale
import Derived.Test.YtbnbfnlfgmlcgaaReqPoT
import Derived.Test.YtbnbfnlfgmlcgaaSaleR2
import Derived.Deep.CutBlock
--import Derived.Test.Zdbg
namespace Go.Proofs.Ytbnbfnlfgmlcgaa
set_option linter.unusedSimpArgs false
set_option linter.unusedVariables false
open Go.RowKit Go.WideShapes Go.ChangeShapes Go.ChangeAt Go.Deep

theorem get_bs (t : List UInt8) (i : Nat) (h : i < (bs t).size) : (bs t)[i]'h = t.getD i 0 := by
  have h' : i < t.length := h
  have e : t.getD i 0 = t[i] := by simp [List.getD, h']
  rw [e]; rfl
theorem getN_take_next (l : List UInt8) (k : Nat) (h : k < l.length) : getN (l.take (k + 1)) = 256 * getN (l.take k) + (l.getD k 0).toNat := by
  have e : l.take (k + 1) = l.take k ++ [l.getD k 0] := by
    rw [List.take_add_one, show l[k]? = some (l.getD k 0) by simp [List.getD, h]]
    rfl
  rw [e, getN_snoc, Nat.mul_comm]
theorem getN_lt8 (l : List UInt8) (h : l.length ≤ 8) : getN l < 18446744073709551616 := by
  have h1 := getN_lt l
  have h2 : 256 ^ l.length ≤ 256 ^ 8 := Nat.pow_le_pow_right (by decide) h
  omega
set_option maxRecDepth 100000 in
set_option maxHeartbeats 1000000 in
theorem rnum_any (l : List UInt8) (hl : l.length ≤ 8) (w : World) :
    Calls Try.prog 34 #[.string (bs l)] w fun e w' => e = .returned (.int .u64 (getN l : Int)) ∧ w = w' := by
  have HB := hide (fun i h => get_bs l i h)
  have hsz : (bs l).size = l.length := bs_size l
  have HN := hide (fun k h => getN_take_next l k h)
  have HLT := hide (fun k => getN_lt8 (l.take k) (by rw [List.length_take]; omega))
  have HL := hide hl
  obtain ⟨T, hT⟩ : ∃ T, bs l = T := ⟨_, rfl⟩
  rw [hT] at HB hsz ⊢
  clear hT hl
  go_enter Try.func34, Try.ntmps34
  go_wp2_with fail
  go_loopw [3, 4] (fun n i W => ∃ k : Nat, k ≤ l.length ∧ i = .int .i64 k ∧ n = .int .u64 (getN (l.take k) : Int) ∧ w = W) (fun _ i _ => l.length - (intOf i).toNat)
  case atStart => exact ⟨0, by omega, rfl, rfl, rfl⟩
  case round =>
    obtain ⟨k, hk, rfl, rfl, rfl⟩ := hrel
    by_cases hlt : k < l.length
    · have hks : k < T.size := by omega
      have hb := HB.out k hks
      have hz := HN.out k hlt
      have hz2 := HLT.out (k + 1)
      rw [← hb] at hz
      obtain ⟨y, hy⟩ : ∃ y, (T[k]'hks).toNat = y := ⟨_, rfl⟩
      have hy2 : y < 256 := hy ▸ UInt8.toNat_lt _
      rw [hy] at hz
      have HZ := hide hz
      have hL := HL.out
      generalize getN (l.take k) = v at *
      have hlim : 256 * (v : Int) + (y : Int) < 18446744073709551616 := by omega
      have hu1 : IntKind.u64.wrap (256 * (v : Int)) = 256 * (v : Int) := by rw [IntKind.wrap_u64]; omega
      have hu2 : IntKind.u64.wrap (256 * (v : Int) + (y : Int)) = 256 * (v : Int) + (y : Int) := by rw [IntKind.wrap_u64]; omega
      have hu3 : IntKind.u64.wrap (y : Int) = (y : Int) := by rw [IntKind.wrap_u64]; omega
      clear hz hz2 hb
      go_wp2_with fail
      go_roundw
      case rel => exact ⟨k + 1, hlt, by go_num, by rw [HZ.out]; first | rfl | congr 1, by first | trivial | rfl⟩
      case measure => simp [intOf]; omega
    · obtain rfl : k = l.length := by omega
      rw [List.take_length]
      go_wp2_with fail
      go_ret
      exact ⟨rfl, rfl⟩

theorem byte_one (l : List UInt8) (i : Nat) (h : i < l.length) : vN true (l.drop i) 1 = (l.getD i 0).toNat := by
  rw [show vN true (l.drop i) 1 = getN ((l.drop i).take 1) from if_pos ⟨rfl, by rw [List.length_drop]; omega⟩]
  have e9 : (l.drop i).take 1 = [l[i]] := by rw [List.drop_eq_getElem_cons h]; rfl
  rw [e9, show l.getD i 0 = l[i] by simp [List.getD, h]]
  simp [getN]
theorem rd_po (l : List UInt8) : rdL (bs l) = poL true l ∧ rdE (bs l) = poE true l ∧ (poOk true l = true → rdN (bs l) = ((1 + 10 * (l.getD 0 0).toNat : Nat) : Int)) := by
  have hro : readOk (bs l) = poOk true l := by
    unfold readOk poOk
    rw [Bool.true_and, decide_eq_decide, bs_size]
    by_cases h1 : 1 ≤ l.length
    · rw [cnt_list l h1]
    · exact ⟨fun h => absurd h.1 h1, fun h => absurd h.1 h1⟩
  by_cases hp : poOk true l = true
  · have hh : 1 ≤ l.length := by
      unfold poOk at hp
      rw [Bool.true_and] at hp
      exact (of_decide_eq_true hp).1
    refine ⟨by unfold rdL poL; rw [hro, if_pos hp, if_pos hp, cnt_list l hh], by unfold rdE poE; rw [hro], fun _ => ?_⟩
    unfold rdN
    rw [hro, if_pos hp, cnt_list l hh]
  · exact ⟨by unfold rdL poL; rw [hro, if_neg hp, if_neg hp], by unfold rdE poE; rw [hro], fun h => absurd h hp⟩
theorem settle_is (kz am le mo : Int) (vb : Bool) (hm : mo = if (kz = 1 ∧ vb = false) then am else 0) : (if kz = 1 ∧ vb = false then decide (0 ≤ le ∧ le ≤ am) else (decide (le = 0) && (decide (kz = 1) || !vb))) = (!(vb && decide (¬ kz = 1)) && (!decide (le < 0) && !decide (mo < le))) := by
  subst hm
  cases vb <;> by_cases h : kz = 1 <;> simp only [h] <;> rw [Bool.eq_iff_iff] <;> simp <;> omega
def ROneX (l : List UInt8) (w : World) (e : Ending) (w' : World) : Prop :=
  ((txG l = true ∧ ∃ a c, e = .returned (.tuple #[txV ⟨txR l, a, c⟩, .int .i64 ((27 + 10 * ((l.drop 26).getD 0 0).toNat : Nat) : Int)]) ∧ LnTy 87 w.heap.size w' a (txR l).L) ∨ (txG l = false ∧ e = .returned (.tuple #[txV ta0, .int .i64 0]))) ∧ Below w.heap.size w w'
theorem vN_slice (l : List UInt8) (i n : Nat) (h : i + n ≤ l.length) : vN true (l.drop i) n = getN ((l.drop i).take n) := if_pos ⟨rfl, by rw [List.length_drop]; omega⟩
set_option maxRecDepth 100000 in
set_option maxHeartbeats 16000000 in
theorem rone_any (l : List UInt8) (hl : l.length ≤ 1000000) (w : World) :
    Calls Try.prog 35 #[.string (bs l)] w (ROneX l w) := by
  have hsz : (bs l).size = l.length := bs_size l
  have HG := hide (show ∀ b, txG l = b → txG l = b from fun _ h => h)
  have HB := hide (fun i h => get_bs l i h)
  have HSZ := hide hsz
  have HNUM := hide (fun (a b : Nat) W (hab : a ≤ b ∧ b - a ≤ 8 ∧ b ≤ l.length) => (show Calls Try.prog 34 #[.string ((bs l).extract a b)] W (fun e w' => e = .returned (.int .u64 (vN true (l.drop a) (b - a) : Int)) ∧ W = w') from by rw [bs_ext, vN_slice l a (b - a) (by omega)]; exact rnum_any _ (by rw [List.length_take]; omega) W))
  have HRD := hide (fun W => rpread (bs (l.drop 26)) (by rw [bs_size, List.length_drop]; omega) W)
  have HRP := hide (rd_po (l.drop 26))
  have HRS := hide (bs_rest l 26)
  unfold RReadIs at HRD
  obtain ⟨T, hT⟩ : ∃ T, bs l = T := ⟨_, rfl⟩
  rw [hT] at HB HSZ HNUM HRS ⊢
  have hTs : T.size ≤ 1000000 := by have := HSZ.out; omega
  clear hT hsz HG
  go_enter Try.func35, Try.ntmps35
  go_upto_region 1 with (fail)
  have hal := (Below.refl w.heap.size w).alloc (Nat.le_refl _) (.cells #[.int .i64 0, .int .u8 0, .int .i64 0, .int .i64 0, .int .i64 0, .int .i64 0, .bool false, .slice none 0 0] 38)
  have XR1 := hide (heap_new w (.cells #[.int .i64 0, .int .u8 0, .int .i64 0, .int .i64 0, .int .i64 0, .int .i64 0, .bool false, .slice none 0 0] 38))
  have B1 := hide hal
  clear hal
  generalize w.alloc (.cells #[.int .i64 0, .int .u8 0, .int .i64 0, .int .i64 0, .int .i64 0, .int .i64 0, .bool false, .slice none 0 0] 38) = w1 at *
  obtain ⟨rb, hrb⟩ : ∃ k, w.heap.size = k := ⟨_, rfl⟩
  have HRB := hide (show w.heap.size ≤ rb from by omega)
  rw [hrb] at XR1 ⊢
  clear hrb
  go_upto_region 2 with (refine rw_store rfl 38 (.tmp 4) (.tmp 12) rfl w1.heap.size rfl #[.int .i64 0, .int .u8 0, .int .i64 0, .int .i64 0, .int .i64 0, .int .i64 0, .bool false, .slice none 0 0] rfl _ (heap_new w1 _) (by kernel_rfl) rfl (by simp [Value.oneCell']) ?_)
  have XN2 := hide (setRow_same (cs := (#[.int .i64 0, .int .u8 0, .int .i64 0, .int .i64 0, .int .i64 0, .int .i64 0, .bool false, .slice none 0 0] : Array Value)) (heap_new w1 (.cells #[.int .i64 0, .int .u8 0, .int .i64 0, .int .i64 0, .int .i64 0, .int .i64 0, .bool false, .slice none 0 0] 38)))
  have hal := (Below.refl w1.heap.size w1).alloc (Nat.le_refl _) (.cells #[.int .i64 0, .int .u8 0, .int .i64 0, .int .i64 0, .int .i64 0, .int .i64 0, .bool false, .slice none 0 0] 38)
  have HNR := hide (show w1.heap.size ≠ rb from by have := heap_lt XR1.out; omega)
  have XR2 := hide ((setRow_diff HNR.out (cs := (#[.int .i64 0, .int .u8 0, .int .i64 0, .int .i64 0, .int .i64 0, .int .i64 0, .bool false, .slice none 0 0] : Array Value))).trans ((hal.block _ (heap_lt XR1.out)).trans XR1.out))
  have B2 := hide (setRow_below (B1.out.trans (hal.mono B1.out.size)) B1.out.size (B1.out.trans (hal.mono B1.out.size)).size (#[.int .i64 0, .int .u8 0, .int .i64 0, .int .i64 0, .int .i64 0, .int .i64 0, .bool false, .slice none 0 0] : Array Value))
  clear hal XR1 B1
  generalize (w1.alloc (.cells #[.int .i64 0, .int .u8 0, .int .i64 0, .int .i64 0, .int .i64 0, .int .i64 0, .bool false, .slice none 0 0] 38)).setRow w1.heap.size (#[.int .i64 0, .int .u8 0, .int .i64 0, .int .i64 0, .int .i64 0, .int .i64 0, .bool false, .slice none 0 0] : Array Value) = w2 at *
  generalize w1.heap.size = nb at *
  by_cases h26 : T.size < 26
  · have g1 : decide ((T.size : Int) < 26) = true := decide_eq_true (by omega)
    have HWHY := hide (show txG l = false from by
      unfold txG
      rw [decide_eq_false (by rw [← HSZ.out]; omega)]; rfl)
    as_aux_lemma =>
      go_wp2_with (first | (refine rw_load rfl 38 (.tmp 4) rfl nb rfl 38 #[.int .i64 0, .int .u8 0, .int .i64 0, .int .i64 0, .int .i64 0, .int .i64 0, .bool false, .slice none 0 0] (0, 0) _ XN2.out Try.underlying38 rfl (by kernel_rfl) ?_) | (refine rw_store rfl 38 (.tmp 2) (.tmp 21) rfl rb rfl #[.int .i64 0, .int .u8 0, .int .i64 0, .int .i64 0, .int .i64 0, .int .i64 0, .bool false, .slice none 0 0] rfl _ XR2.out (by kernel_rfl) rfl (by simp [Value.oneCell']) ?_))
      have XF := hide (setRow_same (cs := (#[.int .i64 0, .int .u8 0, .int .i64 0, .int .i64 0, .int .i64 0, .int .i64 0, .bool false, .slice none 0 0] : Array Value)) XR2.out)
      have BF := hide (setRow_below B2.out HRB.out B2.out.size (#[.int .i64 0, .int .u8 0, .int .i64 0, .int .i64 0, .int .i64 0, .int .i64 0, .bool false, .slice none 0 0] : Array Value))
      (try simp only [Exit.inBlock, Exit.then])
      refine bodyPost_ret (res_ct (P := Try.prog) rfl _ _ rb 38 #[.int .i64 0, .int .u8 0, .int .i64 0, .int .i64 0, .int .i64 0, .int .i64 0, .bool false, .slice none 0 0] (0, 0) _ rfl XF.out Try.underlying38 rfl (by kernel_rfl)) rfl ?_
      exact ⟨.inr ⟨HWHY.out, rfl⟩, BF.out⟩
  have g1 : decide ((T.size : Int) < 26) = false := decide_eq_false (by omega)
  have hl26 : 26 ≤ l.length := by rw [← HSZ.out]; omega
  have HN1 := hide (fun W => (show Calls Try.prog 34 #[.string (T.extract 1 5)] W (fun e w' => e = .returned (.int .u64 (vN true (l.drop 1) 4 : Int)) ∧ W = w') from HNUM.out 1 5 W ⟨by decide, by decide, by omega⟩))
  have HN2 := hide (fun W => (show Calls Try.prog 34 #[.string (T.extract 5 9)] W (fun e w' => e = .returned (.int .u64 (vN true (l.drop 5) 4 : Int)) ∧ W = w') from HNUM.out 5 9 W ⟨by decide, by decide, by omega⟩))
  have HN3 := hide (fun W => (show Calls Try.prog 34 #[.string (T.extract 9 17)] W (fun e w' => e = .returned (.int .u64 (vN true (l.drop 9) 8 : Int)) ∧ W = w') from HNUM.out 9 17 W ⟨by decide, by decide, by omega⟩))
  have HN4 := hide (fun W => (show Calls Try.prog 34 #[.string (T.extract 17 25)] W (fun e w' => e = .returned (.int .u64 (vN true (l.drop 17) 8 : Int)) ∧ W = w') from HNUM.out 17 25 W ⟨by decide, by decide, by omega⟩))
  have hb0 := HB.out 0 (by omega)
  have hb25 := HB.out 25 (by omega)
  obtain ⟨k, hkk⟩ : ∃ y, (T[0]'(by omega)).toNat = y := ⟨_, rfl⟩
  obtain ⟨v, hvv⟩ : ∃ y, (T[25]'(by omega)).toNat = y := ⟨_, rfl⟩
  have hk256 : k < 256 := hkk ▸ UInt8.toNat_lt _
  have hv256 : v < 256 := hvv ▸ UInt8.toNat_lt _
  have EK := hide (show vN true l 1 = k from by
    have := byte_one l 0 (by omega)
    rw [List.drop_zero] at this
    rw [this, ← hb0]; exact hkk)
  have EV := hide (show vN true (l.drop 25) 1 = v from by rw [byte_one l 25 (by omega), ← hb25]; exact hvv)
  have HTX := hide (show txR l = ⟨0, (vN true l 1 : Int), (vN true (l.drop 1) 4 : Int), (vN true (l.drop 5) 4 : Int), wrap64 (vN true (l.drop 9) 8 : Int), wrap64 (vN true (l.drop 17) 8 : Int), decide (vN true (l.drop 25) 1 = 1), poL true (l.drop 26)⟩ from rfl)
  have HPA := hide (show 26 ≤ l.length from hl26)
  have HS4 := hide (vN_lt true (l.drop 1) 4)
  have HR4 := hide (vN_lt true (l.drop 5) 4)
  rw [EK.out, EV.out] at HTX
  have HTG := hide (show v ≤ 1 → poOk true (l.drop 26) = true → txG l = (rightT (txR l) && setT (txR l)) from fun h1 h2 => by
    unfold txG
    rw [EV.out, h2, decide_eq_true h1, decide_eq_true HPA.out]; rfl)
  have HTB1 := hide (show ¬ v ≤ 1 → txG l = false from fun h1 => by
    unfold txG
    rw [EV.out, decide_eq_false h1]; simp)
  have HTB2 := hide (show poOk true (l.drop 26) = false → txG l = false from fun h1 => by
    unfold txG
    rw [h1]; simp)
  have HOKX := hide (txR_ok l)
  obtain ⟨s, hs⟩ : ∃ s, vN true (l.drop 1) 4 = s := ⟨_, rfl⟩
  obtain ⟨r, hr⟩ : ∃ s, vN true (l.drop 5) 4 = s := ⟨_, rfl⟩
  obtain ⟨x3, h3⟩ : ∃ s, vN true (l.drop 9) 8 = s := ⟨_, rfl⟩
  obtain ⟨x4, h4⟩ : ∃ s, vN true (l.drop 17) 8 = s := ⟨_, rfl⟩
  obtain ⟨am, ham⟩ : ∃ s, wrap64 (x3 : Int) = s := ⟨_, rfl⟩
  obtain ⟨le, hle⟩ : ∃ s, wrap64 (x4 : Int) = s := ⟨_, rfl⟩
  rw [hs] at HN1 HTX HS4
  rw [hr] at HN2 HTX HR4
  rw [h3] at HN3 HTX
  rw [h4] at HN4 HTX
  rw [ham, hle] at HTX
  have hs4 := HS4.out
  have hr4 := HR4.out
  have hsw : IntKind.i64.wrap (s : Int) = (s : Int) := by rw [IntKind.wrap_i64]; omega
  have hrw : IntKind.i64.wrap (r : Int) = (r : Int) := by rw [IntKind.wrap_i64]; omega
  have hsw2 : wrap64 (s : Int) = (s : Int) := by unfold wrap64; omega
  have hrw2 : wrap64 (r : Int) = (r : Int) := by unfold wrap64; omega
  have haw : IntKind.i64.wrap (x3 : Int) = am := by rw [← ham, IntKind.wrap_i64]; unfold wrap64; omega
  have hlw : IntKind.i64.wrap (x4 : Int) = le := by rw [← hle, IntKind.wrap_i64]; unfold wrap64; omega
  clear hs hr h3 h4 HS4 HR4 HNUM HB hb0 hb25
  have HKB := hide (show k < 256 ∧ v < 256 from ⟨hk256, hv256⟩)
  have XR0 := hide (show w2.drew.heap[rb]? = _ from XR2.out)
  have XN0 := hide (show w2.drew.heap[nb]? = _ from XN2.out)
  have B0 := hide (show Below w.heap.size w w2.drew from B2.out.drew)
  obtain ⟨vb, hvb⟩ : ∃ b, ((v : Int) == 1) = b := ⟨_, rfl⟩
  have HVB := hide (show decide (v = 1) = vb from by
    rw [← hvb]
    by_cases h : v = 1
    · subst h; rfl
    · rw [decide_eq_false h]
      exact (beq_eq_false_iff_ne.mpr (by omega)).symm)
  rw [HVB.out] at HTX
  by_cases hv1 : 1 < v
  · have hv1i : (1 : Int) < (v : Int) := by omega
    have HWHY := hide (HTB1.out (by omega))
    clear XR0 XN0 B0 hvb hs4 hr4 ham hle haw hlw
    as_aux_lemma =>
      go_wp2_with (first | (refine rw_load rfl 38 (.tmp 4) rfl nb rfl 38 #[.int .i64 0, .int .u8 0, .int .i64 0, .int .i64 0, .int .i64 0, .int .i64 0, .bool false, .slice none 0 0] (0, 0) _ XN2.out Try.underlying38 rfl (by kernel_rfl) ?_) | (refine rw_store rfl 38 (.tmp 2) (.tmp 21) rfl rb rfl #[.int .i64 0, .int .u8 0, .int .i64 0, .int .i64 0, .int .i64 0, .int .i64 0, .bool false, .slice none 0 0] rfl _ XR2.out (by kernel_rfl) rfl (by simp [Value.oneCell']) ?_))
      have XF := hide (setRow_same (cs := (#[.int .i64 0, .int .u8 0, .int .i64 0, .int .i64 0, .int .i64 0, .int .i64 0, .bool false, .slice none 0 0] : Array Value)) XR2.out)
      have BF := hide (setRow_below B2.out HRB.out B2.out.size (#[.int .i64 0, .int .u8 0, .int .i64 0, .int .i64 0, .int .i64 0, .int .i64 0, .bool false, .slice none 0 0] : Array Value))
      (try simp only [Exit.inBlock, Exit.then])
      refine bodyPost_ret (res_ct (P := Try.prog) rfl _ _ rb 38 #[.int .i64 0, .int .u8 0, .int .i64 0, .int .i64 0, .int .i64 0, .int .i64 0, .bool false, .slice none 0 0] (0, 0) _ rfl XF.out Try.underlying38 rfl (by kernel_rfl)) rfl ?_
      exact ⟨.inr ⟨HWHY.out, rfl⟩, BF.out⟩
  have hv1i : ¬ (1 : Int) < (v : Int) := by omega
  have HV1 := hide (show v ≤ 1 from by omega)
  have HNR2 := hide HNR.out
  have hi0 : 0 < T.size := by omega
  have hi25 : (25 : Int) < (T.size : Int) := by omega
  clear HTB1
  go_upto_region 4 with (fail)
  clear XR2 XN2 B2 ham hle hs4 hr4 hk256 hv256 hv1 hv1i g1
  refine wp_region_held_drew (S := (fun _ => True)) (by kernel_rfl) (trivial) (fun hHeld => ?_)
  generalize w2.drew = u0 at *
  refine wpAnyH_take (i := 0) (oi := { dst := some 22, op := Op.move (Operand.tmp 0), type := 9, pos := "ref.go:169", after := #[], guard := none }) (v := ?_) rfl (by kernel_rfl) (by kernel_rfl) (by kernel_rfl) (fun _ _ _ h => h) (Or.inl ⟨by kernel_rfl, ?_⟩) hHeld ?_
  rotate_left
  · (intro w hSw; (try dsimp only at hSw); go_simp); try with_reducible rfl
  try simp only [Act.put, List.setIfInBounds_toArray, List.set_cons_zero, List.set_cons_succ]
  refine wpAnyH_take (i := 1) (oi := { dst := some 23, op := Op.index 9 (Operand.tmp 22) (Operand.const (Value.int IntKind.i64 0)), type := 5, pos := "ref.go:169", after := #[{ on := 0, ground := Ground.data }], guard := none }) (v := ?_) rfl (by kernel_rfl) (by kernel_rfl) (by kernel_rfl) (fun _ _ _ h => h) (Or.inl ⟨by kernel_rfl, ?_⟩) hHeld ?_
  rotate_left
  · (intro w hSw; (try dsimp only at hSw); go_simp); try with_reducible rfl
  try simp only [Act.put, List.setIfInBounds_toArray, List.set_cons_zero, List.set_cons_succ]
  refine wpAnyH_take (i := 2) (oi := { dst := some 24, op := Op.move (Operand.tmp 0), type := 9, pos := "ref.go:169", after := #[], guard := none }) (v := ?_) rfl (by kernel_rfl) (by kernel_rfl) (by kernel_rfl) (fun _ _ _ h => h) (Or.inl ⟨by kernel_rfl, ?_⟩) hHeld ?_
  rotate_left
  · (intro w hSw; (try dsimp only at hSw); go_simp); try with_reducible rfl
  try simp only [Act.put, List.setIfInBounds_toArray, List.set_cons_zero, List.set_cons_succ]
  refine wpAnyH_take (i := 3) (oi := { dst := some 25, op := Op.index 9 (Operand.tmp 24) (Operand.const (Value.int IntKind.i64 25)), type := 5, pos := "ref.go:169", after := #[{ on := 2, ground := Ground.data }], guard := none }) (v := ?_) rfl (by kernel_rfl) (by kernel_rfl) (by kernel_rfl) (fun _ _ _ h => h) (Or.inl ⟨by kernel_rfl, ?_⟩) hHeld ?_
  rotate_left
  · (intro w hSw; (try dsimp only at hSw); go_simp); try with_reducible rfl
  try simp only [Act.put, List.setIfInBounds_toArray, List.set_cons_zero, List.set_cons_succ]
  refine wpAnyH_take (i := 4) (oi := { dst := some 26, op := Op.binOp BinOp.eql 5 (Operand.tmp 25) (Operand.const (Value.int IntKind.u8 1)) 5, type := 4, pos := "ref.go:169", after := #[{ on := 3, ground := Ground.data }], guard := none }) (v := ?_) rfl (by kernel_rfl) (by kernel_rfl) (by kernel_rfl) (fun _ _ _ h => h) (Or.inl ⟨by kernel_rfl, ?_⟩) hHeld ?_
  rotate_left
  · (intro w hSw; (try dsimp only at hSw); go_simp); try with_reducible rfl
  try simp only [Act.put, List.setIfInBounds_toArray, List.set_cons_zero, List.set_cons_succ]
  refine wpAnyH_take (i := 5) (oi := { dst := some 27, op := Op.build 38 #[(1, Operand.tmp 23), (6, Operand.tmp 26)], type := 38, pos := "ref.go:169", after := #[{ on := 1, ground := Ground.data }, { on := 4, ground := Ground.data }], guard := none }) (v := ?_) rfl (by kernel_rfl) (by kernel_rfl) (by kernel_rfl) (fun _ _ _ h => h) (Or.inl ⟨by kernel_rfl, ?_⟩) hHeld ?_
  rotate_left
  · (intro w hSw; (try dsimp only at hSw); go_simp); try with_reducible rfl
  try simp only [Act.put, List.setIfInBounds_toArray, List.set_cons_zero, List.set_cons_succ]
  refine wpAnyH_ready (rs := [6]) (by kernel_rfl) (by simp) (AllReadyH.cons (o := { dst := some 5, op := Op.alloc 38, type := 0, pos := "ref.go:169", after := #[], guard := none }) rfl (fun K hK => ?_) AllReadyH.nil)
  have hOld := hide hHeld
  clear hHeld
  go_simp
  obtain ⟨oz, hoz⟩ : ∃ oz, oz = Obj.cells #[.int .i64 0, .int .u8 0, .int .i64 0, .int .i64 0, .int .i64 0, .int .i64 0, .bool false, .slice none 0 0] 38 := ⟨_, rfl⟩
  try rw [← hoz]
  have hal := (Below.refl u0.heap.size u0).alloc (Nat.le_refl _) oz
  have XT1 := hide (heap_new u0 oz)
  have XR1 := hide ((hal.block _ (heap_lt XR0.out)).trans XR0.out)
  have XN1 := hide ((hal.block _ (heap_lt XN0.out)).trans XN0.out)
  have HNE := hide (show rb ≠ u0.heap.size ∧ nb ≠ u0.heap.size from by have h1 := heap_lt XR0.out; have h2 := heap_lt XN0.out; omega)
  have HTB := hide (show w.heap.size ≤ u0.heap.size from B0.out.size)
  have B1 := hide (B0.out.trans (hal.mono B0.out.size))
  clear hal XR0 XN0 B0
  generalize u0.alloc oz = u1 at *
  generalize u0.heap.size = tb at *
  rw [hoz] at XT1
  clear hoz oz
  (try go_wp2_with fail)
  refine hK.out _ _ (trivial) (fun hHeld => ?_)
  clear hK K hOld
  try simp only [Act.put, List.setIfInBounds_toArray, List.set_cons_zero, List.set_cons_succ]
  refine wpAnyH_ready (rs := [7]) (by kernel_rfl) (by simp) (AllReadyH.cons (o := { dst := none, op := Op.store 38 (Operand.tmp 5) (Operand.tmp 27), type := 0, pos := "ref.go:169", after := #[{ on := 6, ground := Ground.data }, { on := 5, ground := Ground.data }, { on := 0, ground := Ground.phase }, { on := 1, ground := Ground.phase }, { on := 2, ground := Ground.phase }, { on := 3, ground := Ground.phase }, { on := 4, ground := Ground.phase }, { on := 5, ground := Ground.phase }, { on := 6, ground := Ground.phase }], guard := none }) rfl (fun K hK => ?_) AllReadyH.nil)
  have hOld := hide hHeld
  clear hHeld
  refine rw_storeO 38 (.tmp 5) (.tmp 27) rfl tb rfl #[.int .i64 0, .int .u8 (k : Int), .int .i64 0, .int .i64 0, .int .i64 0, .int .i64 0, .bool vb, .slice none 0 0] rfl _ XT1.out (by kernel_rfl) rfl (by simp [Value.oneCell']) ?_
  have XT3 := hide (setRow_same (cs := #[.int .i64 0, .int .u8 (k : Int), .int .i64 0, .int .i64 0, .int .i64 0, .int .i64 0, .bool vb, .slice none 0 0]) XT1.out)
  have ho := setRow_only u1 tb #[.int .i64 0, .int .u8 (k : Int), .int .i64 0, .int .i64 0, .int .i64 0, .int .i64 0, .bool vb, .slice none 0 0]
  have XR3 := hide ((ho.block _ (heap_lt XR1.out) HNE.out.1).trans XR1.out)
  have XN3 := hide ((ho.block _ (heap_lt XN1.out) HNE.out.2).trans XN1.out)
  have B3 := hide (setRow_below B1.out HTB.out B1.out.size #[.int .i64 0, .int .u8 (k : Int), .int .i64 0, .int .i64 0, .int .i64 0, .int .i64 0, .bool vb, .slice none 0 0])
  clear ho XT1 XR1 XN1 B1
  generalize u1.setRow tb #[.int .i64 0, .int .u8 (k : Int), .int .i64 0, .int .i64 0, .int .i64 0, .int .i64 0, .bool vb, .slice none 0 0] = w3 at *
  refine hK.out _ _ (trivial) (fun hHeld => ?_)
  clear hK K hOld
  try simp only [Act.put, List.setIfInBounds_toArray, List.set_cons_zero, List.set_cons_succ]
  refine wpAnyH_done (by kernel_rfl) ?_ _
  clear hHeld

  clear hkk hvv hvb
  have hz5 : 5 ≤ T.size := by omega
  have hy5 : (5 : Int) ≤ (T.size : Int) := by omega
  have hz9 : 9 ≤ T.size := by omega
  have hy9 : (9 : Int) ≤ (T.size : Int) := by omega
  have hz17 : 17 ≤ T.size := by omega
  have hy17 : (17 : Int) ≤ (T.size : Int) := by omega
  have hz25 : 25 ≤ T.size := by omega
  have hy25 : (25 : Int) ≤ (T.size : Int) := by omega
  have hz26 : 26 ≤ T.size := by omega
  have hy26 : (26 : Int) ≤ (T.size : Int) := by omega
  go_wp2_with fail
  refine (HN1.out _).mono ?_
  rintro e w9 ⟨rfl, rfl⟩
  have ct : w3.cell? ⟨tb, 2, none⟩ = some (.int .i64 0) := cell_of_block XT3.out 2
  have ft : w3.frozen? ⟨tb, 2, none⟩ = false := frozen_of_block XT3.out 2
  go_upto_region 7 with (fail)
  have XT4 := hide (show (w3.setCell ⟨tb, 2, none⟩ (.int .i64 (s : Int))).heap[tb]? = some (.cells #[.int .i64 0, .int .u8 (k : Int), .int .i64 (s : Int), .int .i64 0, .int .i64 0, .int .i64 0, .bool vb, .slice none 0 0] 38 (0, 0)) from block_setCell XT3.out 2 (.int .i64 (s : Int)))
  have XR4 := hide ((block_setCell_other HNE.out.1.symm 2 (.int .i64 (s : Int))).trans XR3.out)
  have XN4 := hide ((block_setCell_other HNE.out.2.symm 2 (.int .i64 (s : Int))).trans XN3.out)
  have B4 := hide (B3.out.setCell (p := ⟨tb, 2, none⟩) HTB.out (.int .i64 (s : Int)))
  clear ct ft XT3 XR3 XN3 B3 HN1
  generalize w3.setCell ⟨tb, 2, none⟩ (.int .i64 (s : Int)) = w4 at *
  go_wp2_with fail
  refine (HN2.out _).mono ?_
  rintro e w9 ⟨rfl, rfl⟩
  have ct : w4.cell? ⟨tb, 3, none⟩ = some (.int .i64 0) := cell_of_block XT4.out 3
  have ft : w4.frozen? ⟨tb, 3, none⟩ = false := frozen_of_block XT4.out 3
  go_upto_region 9 with (fail)
  have XT5 := hide (show (w4.setCell ⟨tb, 3, none⟩ (.int .i64 (r : Int))).heap[tb]? = some (.cells #[.int .i64 0, .int .u8 (k : Int), .int .i64 (s : Int), .int .i64 (r : Int), .int .i64 0, .int .i64 0, .bool vb, .slice none 0 0] 38 (0, 0)) from block_setCell XT4.out 3 (.int .i64 (r : Int)))
  have XR5 := hide ((block_setCell_other HNE.out.1.symm 3 (.int .i64 (r : Int))).trans XR4.out)
  have XN5 := hide ((block_setCell_other HNE.out.2.symm 3 (.int .i64 (r : Int))).trans XN4.out)
  have B5 := hide (B4.out.setCell (p := ⟨tb, 3, none⟩) HTB.out (.int .i64 (r : Int)))
  clear ct ft XT4 XR4 XN4 B4 HN2
  generalize w4.setCell ⟨tb, 3, none⟩ (.int .i64 (r : Int)) = w5 at *
  go_wp2_with fail
  refine (HN3.out _).mono ?_
  rintro e w9 ⟨rfl, rfl⟩
  have ct : w5.cell? ⟨tb, 4, none⟩ = some (.int .i64 0) := cell_of_block XT5.out 4
  have ft : w5.frozen? ⟨tb, 4, none⟩ = false := frozen_of_block XT5.out 4
  go_upto_region 11 with (fail)
  have XT6 := hide (show (w5.setCell ⟨tb, 4, none⟩ (.int .i64 am)).heap[tb]? = some (.cells #[.int .i64 0, .int .u8 (k : Int), .int .i64 (s : Int), .int .i64 (r : Int), .int .i64 am, .int .i64 0, .bool vb, .slice none 0 0] 38 (0, 0)) from block_setCell XT5.out 4 (.int .i64 am))
  have XR6 := hide ((block_setCell_other HNE.out.1.symm 4 (.int .i64 am)).trans XR5.out)
  have XN6 := hide ((block_setCell_other HNE.out.2.symm 4 (.int .i64 am)).trans XN5.out)
  have B6 := hide (B5.out.setCell (p := ⟨tb, 4, none⟩) HTB.out (.int .i64 am))
  clear ct ft XT5 XR5 XN5 B5 HN3
  generalize w5.setCell ⟨tb, 4, none⟩ (.int .i64 am) = w6 at *
  go_wp2_with fail
  refine (HN4.out _).mono ?_
  rintro e w9 ⟨rfl, rfl⟩
  have ct : w6.cell? ⟨tb, 5, none⟩ = some (.int .i64 0) := cell_of_block XT6.out 5
  have ft : w6.frozen? ⟨tb, 5, none⟩ = false := frozen_of_block XT6.out 5
  go_upto_region 13 with (fail)
  have XT7 := hide (show (w6.setCell ⟨tb, 5, none⟩ (.int .i64 le)).heap[tb]? = some (.cells #[.int .i64 0, .int .u8 (k : Int), .int .i64 (s : Int), .int .i64 (r : Int), .int .i64 am, .int .i64 le, .bool vb, .slice none 0 0] 38 (0, 0)) from block_setCell XT6.out 5 (.int .i64 le))
  have XR7 := hide ((block_setCell_other HNE.out.1.symm 5 (.int .i64 le)).trans XR6.out)
  have XN7 := hide ((block_setCell_other HNE.out.2.symm 5 (.int .i64 le)).trans XN6.out)
  have B7 := hide (B6.out.setCell (p := ⟨tb, 5, none⟩) HTB.out (.int .i64 le))
  clear ct ft XT6 XR6 XN6 B6 HN4
  generalize w6.setCell ⟨tb, 5, none⟩ (.int .i64 le) = w7 at *
  have hex : T.extract 26 T.size = bs (l.drop 26) := HRS.out
  go_wp2_with fail
  (try rw [hex])
  refine (HRD.out _).mono ?_
  rintro e w8 ⟨a, c, rfl, hln, hb⟩
  have XT8 := hide ((hb.block _ (heap_lt XT7.out)).trans XT7.out)
  have XR8 := hide ((hb.block _ (heap_lt XR7.out)).trans XR7.out)
  have XN8 := hide ((hb.block _ (heap_lt XN7.out)).trans XN7.out)
  have B8 := hide (B7.out.trans (hb.mono B7.out.size))
  have HLN := hide hln
  have HZ7 := hide (show w.heap.size ≤ w7.heap.size from B7.out.size)
  clear hln hb XT7 XR7 XN7 B7 HRD hex hsw hrw hsw2 hrw2 haw hlw
  obtain ⟨hrp1, hrp2, hrp3⟩ := HRP.out
  rw [hrp1] at HLN ⊢
  rw [hrp2]
  obtain ⟨LL, hLL⟩ : ∃ L, poL true (l.drop 26) = L := ⟨_, rfl⟩
  rw [hLL] at HTX HLN ⊢
  clear hrp1 hrp2 hLL
  by_cases hpo : poOk true (l.drop 26) = true
  · have hpe : poE true (l.drop 26) = 0 := if_pos hpo
    obtain ⟨cn, hcn⟩ : ∃ cn, ((l.drop 26).getD 0 0).toNat = cn := ⟨_, rfl⟩
    have hrn := hrp3 hpo
    rw [hcn] at hrn
    obtain ⟨m1, hm1⟩ : ∃ m1 : Int, ((1 + 10 * cn : Nat) : Int) = m1 := ⟨_, rfl⟩
    rw [hm1] at hrn
    rw [hpe, hrn]
    have HM1 := hide hm1
    have HCN := hide (show cn ≤ 255 from by have := ((l.drop 26).getD 0 0).toNat_lt; omega)
    have HCE := hide hcn
    have HGG := hide (HTG.out HV1.out hpo)
    rw [HTX.out] at HGG HOKX
    have HRI := hide (fun W hW => rright_any ⟨⟨0, (k : Int), (s : Int), (r : Int), am, le, vb, LL⟩, a, c⟩ HOKX.out W hW)
    unfold txV txC at HRI
    dsimp only at HRI
    clear hpe hrn hrp3 hpo HTG HTB2 HRP hm1 hcn
    have ct : w8.cell? ⟨tb, 7, none⟩ = some (.slice none 0 0) := cell_of_block XT8.out 7
    have ft : w8.frozen? ⟨tb, 7, none⟩ = false := frozen_of_block XT8.out 7
    go_upto_region 17 with (fail)
    have XT9 := hide (show (w8.setCell ⟨tb, 7, none⟩ (.slice a LL.length c)).heap[tb]? = some (.cells #[.int .i64 0, .int .u8 (k : Int), .int .i64 (s : Int), .int .i64 (r : Int), .int .i64 am, .int .i64 le, .bool vb, .slice a LL.length c] 38 (0, 0)) from block_setCell XT8.out 7 (.slice a LL.length c))
    have XR9 := hide ((block_setCell_other HNE.out.1.symm 7 (.slice a LL.length c)).trans XR8.out)
    have XN9 := hide ((block_setCell_other HNE.out.2.symm 7 (.slice a LL.length c)).trans XN8.out)
    have HLN9 := hide (HLN.out.keepsT (setCell_keepsP XT8.out 7 (.slice a LL.length c)) (by decide))
    have B9 := hide (B8.out.setCell (p := ⟨tb, 7, none⟩) HTB.out (.slice a LL.length c))
    clear ct ft XT8 XR8 XN8 B8 HLN
    generalize w8.setCell ⟨tb, 7, none⟩ (.slice a LL.length c) = w9 at *
    go_wp2_with (refine rw_load rfl 38 (.tmp 5) rfl tb rfl 38 #[.int .i64 0, .int .u8 (k : Int), .int .i64 (s : Int), .int .i64 (r : Int), .int .i64 am, .int .i64 le, .bool vb, .slice a LL.length c] (0, 0) _ XT9.out Try.underlying38 rfl (by kernel_rfl) ?_)
    refine (HRI.out _ HLN9.out.lnIn).mono ?_
    rintro e w10 ⟨rfl, hb⟩
    have XT10 := hide ((hb.block _ (heap_lt XT9.out)).trans XT9.out)
    have XR10 := hide ((hb.block _ (heap_lt XR9.out)).trans XR9.out)
    have XN10 := hide ((hb.block _ (heap_lt XN9.out)).trans XN9.out)
    have HLN10 := hide (HLN9.out.below hb)
    have B10 := hide (B9.out.trans (hb.mono B9.out.size))
    clear hb XT9 XR9 XN9 HLN9 B9
    obtain ⟨rt, hrt⟩ : ∃ b, rightT ⟨0, (k : Int), (s : Int), (r : Int), am, le, vb, LL⟩ = b := ⟨_, rfl⟩
    rw [hrt] at HGG ⊢
    clear hrt HRI HOKX
    have HSB := hide (show setT ⟨0, (k : Int), (s : Int), (r : Int), am, le, vb, LL⟩ = if (k : Int) = 1 ∧ vb = false then decide (0 ≤ le ∧ le ≤ am) else (decide (le = 0) && (decide ((k : Int) = 1) || !vb)) from rfl)
    obtain ⟨kz, hkz⟩ : ∃ z : Int, (k : Int) = z := ⟨_, rfl⟩
    obtain ⟨sz, hsz⟩ : ∃ z : Int, (s : Int) = z := ⟨_, rfl⟩
    obtain ⟨rz, hrz⟩ : ∃ z : Int, (r : Int) = z := ⟨_, rfl⟩
    rw [hkz, hsz, hrz] at HTX HGG HSB XT10
    rw [hkz, hsz, hrz]
    clear hkz hsz hrz HKB EK EV HV1 HPA hi0 hi25 hz5 hy5 hz9 hy9 hz17 hy17 hz25 hy25 hz26 hy26 hl26 h26
    have c1 : w10.cell? ⟨tb, 1, none⟩ = some (.int .u8 kz) := cell_of_block XT10.out 1
    have c4 : w10.cell? ⟨tb, 4, none⟩ = some (.int .i64 am) := cell_of_block XT10.out 4
    have c5 : w10.cell? ⟨tb, 5, none⟩ = some (.int .i64 le) := cell_of_block XT10.out 5
    have c6 : w10.cell? ⟨tb, 6, none⟩ = some (.bool vb) := cell_of_block XT10.out 6
    go_upto_region 19 with (fail)
    go_cut [73] from 66 to 73 (fun t W => t = .bool (decide (kz = 1) && !vb) ∧ W = w10)
    case first =>
      by_cases hk1 : kz = 1
      · have hk1b : (kz == 1) = true := by rw [hk1]; rfl
        have HV := hide (show (decide (kz = 1) && !vb) = !vb from by rw [decide_eq_true hk1, Bool.true_and])
        clear hk1
        go_wp2_with fail
        go_meet
        exact ⟨by rw [HV.out], rfl⟩
      · have hk1b : (kz == 1) = false := beq_eq_false_iff_ne.mpr hk1
        have HV := hide (show (decide (kz = 1) && !vb) = false from by rw [decide_eq_false hk1, Bool.false_and])
        clear hk1
        go_wp2_with fail
        go_meet
        exact ⟨by rw [HV.out], rfl⟩
    case rest =>
    obtain ⟨rfl, rfl⟩ := hcut
    obtain ⟨b1, hb1⟩ : ∃ b, (decide (kz = 1) && !vb) = b := ⟨_, rfl⟩
    rw [hb1]
    have HB1 := hide hb1
    clear hb1
    go_upto_if 73 with (fail)
    go_cut [11] from 74 to 75 (fun t W => t = .int .i64 (if b1 = true then am else 0) ∧ W = wc)
    case first =>
      cases b1
      · go_wp2_with fail
        go_meet
        exact ⟨rfl, rfl⟩
      · go_wp2_with fail
        go_meet
        exact ⟨rfl, rfl⟩
    case rest =>
    obtain ⟨rfl, rfl⟩ := hcut
    obtain ⟨mo, hmo⟩ : ∃ m, (if b1 = true then am else 0) = m := ⟨_, rfl⟩
    rw [hmo]
    have HMO := hide (show mo = if (kz = 1 ∧ vb = false) then am else 0 from by
      rw [← hmo, ← HB1.out]
      cases vb <;> by_cases h : kz = 1 <;> simp [h])
    have HSET := hide (show setT ⟨0, kz, sz, rz, am, le, vb, LL⟩ = (!(vb && decide (¬ kz = 1)) && (!decide (le < 0) && !decide (mo < le))) from HSB.out.trans (settle_is kz am le mo vb HMO.out))
    clear hmo HMO HB1 HSB
    go_upto_region 21 with (fail)
    go_cut [97] from 76 to 97 (fun t W => t = .bool (!(rt && (!(vb && decide (¬ kz = 1)) && (!decide (le < 0) && !decide (mo < le))))) ∧ W = wc)
    case first =>
      have HL := hide (fun (b3 b4 : Bool) (h3 : decide (le < 0) = b3) (h4 : decide (mo < le) = b4) => show (!(rt && (!(vb && decide (¬ kz = 1)) && (!decide (le < 0) && !decide (mo < le))))) = (!(rt && (!(vb && decide (¬ kz = 1)) && (!b3 && !b4)))) from by rw [h3, h4])
      by_cases hk1 : kz = 1
      · have HD := hide (show decide (¬ kz = 1) = false from decide_eq_false (fun h => h hk1))
        have hk2 : (kz != 1) = false := by rw [hk1]; rfl
        clear hk1
        cases rt <;> cases vb
        all_goals
          by_cases h1 : le < 0
        all_goals
          by_cases h2 : mo < le
        all_goals
          go_wp2_with fail
          go_meet
          exact ⟨by rw [HD.out]; simp [h1, h2], rfl⟩
      · have HD := hide (show decide (¬ kz = 1) = true from decide_eq_true hk1)
        have hk2 : (kz != 1) = true := bne_iff_ne.mpr hk1
        clear hk1
        cases rt <;> cases vb
        all_goals
          by_cases h1 : le < 0
        all_goals
          by_cases h2 : mo < le
        all_goals
          go_wp2_with fail
          go_meet
          exact ⟨by rw [HD.out]; simp [h1, h2], rfl⟩
    case rest =>
    obtain ⟨rfl, rfl⟩ := hcut
    rw [HSET.out] at HGG
    rw [← HGG.out]
    have HTGX := hide (show ∀ b, txG l = b → txG l = b from fun _ h => h)
    clear HGG HSET
    rcases hgt : txG l with _ | _
    · have HWHY := hide hgt
      clear hgt
      rw [show (!false) = true from rfl]
      go_upto_region 22 with (fail)
      go_wp2_with (first | (refine rw_load rfl 38 (.tmp 4) rfl nb rfl 38 #[.int .i64 0, .int .u8 0, .int .i64 0, .int .i64 0, .int .i64 0, .int .i64 0, .bool false, .slice none 0 0] (0, 0) _ XN10.out Try.underlying38 rfl (by kernel_rfl) ?_) | (refine rw_store rfl 38 (.tmp 2) (.tmp 98) rfl rb rfl #[.int .i64 0, .int .u8 0, .int .i64 0, .int .i64 0, .int .i64 0, .int .i64 0, .bool false, .slice none 0 0] rfl _ XR10.out (by kernel_rfl) rfl (by simp [Value.oneCell']) ?_))
      have XF := hide (setRow_same (cs := (#[.int .i64 0, .int .u8 0, .int .i64 0, .int .i64 0, .int .i64 0, .int .i64 0, .bool false, .slice none 0 0] : Array Value)) XR10.out)
      have BF := hide (setRow_below B10.out HRB.out B10.out.size (#[.int .i64 0, .int .u8 0, .int .i64 0, .int .i64 0, .int .i64 0, .int .i64 0, .bool false, .slice none 0 0] : Array Value))
      (try simp only [Exit.inBlock, Exit.then])
      refine bodyPost_ret (res_ct (P := Try.prog) rfl _ _ rb 38 #[.int .i64 0, .int .u8 0, .int .i64 0, .int .i64 0, .int .i64 0, .int .i64 0, .bool false, .slice none 0 0] (0, 0) _ rfl XF.out Try.underlying38 rfl (by kernel_rfl)) rfl ?_
      exact ⟨.inr ⟨HWHY.out, rfl⟩, BF.out⟩
    · have HYES := hide hgt
      clear hgt
      rw [show (!true) = false from rfl]
      have hcw : IntKind.i64.wrap (26 + m1) = 26 + m1 := by rw [IntKind.wrap_i64]; have := HCN.out; have := HM1.out; omega
      have hcw2 : wrap64 (26 + m1) = 26 + m1 := by unfold wrap64; have := HCN.out; have := HM1.out; omega
      have HCF := hide (show ((27 + 10 * cn : Nat) : Int) = 26 + m1 from by rw [← HM1.out]; omega)
      go_upto_region 23 with (fail)
      go_wp2_with (first | (refine rw_load rfl 38 (.tmp 5) rfl tb rfl 38 #[.int .i64 0, .int .u8 kz, .int .i64 sz, .int .i64 rz, .int .i64 am, .int .i64 le, .bool vb, .slice a LL.length c] (0, 0) _ XT10.out Try.underlying38 rfl (by kernel_rfl) ?_) | (refine rw_store rfl 38 (.tmp 2) (.tmp 99) rfl rb rfl #[.int .i64 0, .int .u8 kz, .int .i64 sz, .int .i64 rz, .int .i64 am, .int .i64 le, .bool vb, .slice a LL.length c] rfl _ XR10.out (by kernel_rfl) rfl (by simp [Value.oneCell']) ?_))
      have XF := hide (setRow_same (cs := (#[.int .i64 0, .int .u8 kz, .int .i64 sz, .int .i64 rz, .int .i64 am, .int .i64 le, .bool vb, .slice a LL.length c] : Array Value)) XR10.out)
      have BF := hide (setRow_below B10.out HRB.out B10.out.size (#[.int .i64 0, .int .u8 kz, .int .i64 sz, .int .i64 rz, .int .i64 am, .int .i64 le, .bool vb, .slice a LL.length c] : Array Value))
      have HLF := hide (HLN10.out.keepsT (setRow_keeps (Ts := [38]) XR10.out (by decide) (#[.int .i64 0, .int .u8 kz, .int .i64 sz, .int .i64 rz, .int .i64 am, .int .i64 le, .bool vb, .slice a LL.length c] : Array Value)) (by decide))
      (try simp only [Exit.inBlock, Exit.then])
      refine bodyPost_ret (res_ct (P := Try.prog) rfl _ _ rb 38 #[.int .i64 0, .int .u8 kz, .int .i64 sz, .int .i64 rz, .int .i64 am, .int .i64 le, .bool vb, .slice a LL.length c] (0, 0) _ rfl XF.out Try.underlying38 rfl (by kernel_rfl)) rfl ?_
      refine ⟨.inl ⟨HYES.out, a, c, ?_, ?_⟩, BF.out⟩
      · rw [HTX.out, HCE.out, HCF.out]; rfl
      · rw [HTX.out]; exact HLF.out.mono HZ7.out
  · have hpe : poE true (l.drop 26) = 4 := if_neg hpo
    rw [hpe]
    have HWHY := hide (HTB2.out (by simpa using hpo))
    clear hpe hrp3 hpo
    as_aux_lemma =>
      go_wp2_with (first | (refine rw_load rfl 38 (.tmp 4) rfl nb rfl 38 #[.int .i64 0, .int .u8 0, .int .i64 0, .int .i64 0, .int .i64 0, .int .i64 0, .bool false, .slice none 0 0] (0, 0) _ XN8.out Try.underlying38 rfl (by kernel_rfl) ?_) | (refine rw_store rfl 38 (.tmp 2) (.tmp 61) rfl rb rfl #[.int .i64 0, .int .u8 0, .int .i64 0, .int .i64 0, .int .i64 0, .int .i64 0, .bool false, .slice none 0 0] rfl _ XR8.out (by kernel_rfl) rfl (by simp [Value.oneCell']) ?_))
      have XF := hide (setRow_same (cs := (#[.int .i64 0, .int .u8 0, .int .i64 0, .int .i64 0, .int .i64 0, .int .i64 0, .bool false, .slice none 0 0] : Array Value)) XR8.out)
      have BF := hide (setRow_below B8.out HRB.out B8.out.size (#[.int .i64 0, .int .u8 0, .int .i64 0, .int .i64 0, .int .i64 0, .int .i64 0, .bool false, .slice none 0 0] : Array Value))
      (try simp only [Exit.inBlock, Exit.then])
      refine bodyPost_ret (res_ct (P := Try.prog) rfl _ _ rb 38 #[.int .i64 0, .int .u8 0, .int .i64 0, .int .i64 0, .int .i64 0, .int .i64 0, .bool false, .slice none 0 0] (0, 0) _ rfl XF.out Try.underlying38 rfl (by kernel_rfl)) rfl ?_
      exact ⟨.inr ⟨HWHY.out, rfl⟩, BF.out⟩
end Go.Proofs.Ytbnbfnlfgmlcgaa
