/-
  Layer 24's laws, walked: KeysLast.
-/
import Derived.Test.YtmomjefbifoliaaKeys5
--import Derived.Test.Zdbg
namespace Go.Proofs.Ytmomjefbifoliaa
set_option linter.unusedSimpArgs false
set_option linter.unusedVariables false
open Go.RowKit Go.WideShapes Go.ChangeShapes Go.ChangeAt

/-- the last ones -/
def lastN (A : List Ent) (m : Nat) : List Ent := A.drop (A.length - m)
theorem lastN_length (A : List Ent) (m : Nat) : (lastN A m).length = min m A.length := by simp [lastN]; omega
theorem lastN_put (A : List Ent) (m : Nat) (x : Ent) : putL' (lastN A m) m x = lastN (A ++ [x]) m := by
  have h : lastN A m ++ [x] = (A ++ [x]).drop (A.length - m) := by rw [lastN, List.drop_append_of_le_length (by omega)]
  rw [putL', h, List.drop_drop, lastN_length, lastN, List.length_append]
  congr 1
  simp
  omega
def entF (b : ByteArray) (i : Nat) : Ent := ⟨(i : Int) * 977, b, (i : Int) + 1⟩
def entsF (b : ByteArray) (n : Nat) : List Ent := (List.range n).map (entF b)
theorem entsF_length (b : ByteArray) (n : Nat) : (entsF b n).length = n := by simp [entsF]
theorem entsF_next (b : ByteArray) (n : Nat) : entsF b (n + 1) = entsF b n ++ [entF b n] := by simp [entsF, List.range_succ]
theorem last_at (b : ByteArray) (n m j : Nat) (h : j < (lastN (entsF b n) m).length) : (lastN (entsF b n) m).getD j ent0 = entF b (n - m + j) := by
  rw [lastN_length, entsF_length] at h
  have h2 : n - m + j < n := by omega
  simp [lastN, entsF, List.getD, h2]
theorem last_new (b : ByteArray) (n m : Nat) : keyI (lastN (entsF b n) m) ((n : Int) * 977) = -1 := by
  refine keyI_none _ _ fun j hj => ?_
  rw [last_at b n m j hj]
  rw [lastN_length, entsF_length] at hj
  show ((n - m + j : Nat) : Int) * 977 ≠ _
  omega
theorem last_there (b : ByteArray) (n m i : Nat) (h : i < n) (hk : n - m ≤ i) : keyI (lastN (entsF b n) m) ((i : Int) * 977) = ((i - (n - m) : Nat) : Int) ∧ (lastN (entsF b n) m).getD (i - (n - m)) ent0 = entF b i := by
  have hl : i - (n - m) < (lastN (entsF b n) m).length := by rw [lastN_length, entsF_length]; omega
  have e : n - m + (i - (n - m)) = i := by omega
  have h2 : (lastN (entsF b n) m).getD (i - (n - m)) ent0 = entF b i := by rw [last_at b n m _ hl, e]
  refine ⟨keyI_found _ _ _ hl (by rw [h2]; rfl) fun j hj => ?_, h2⟩
  rw [last_at b n m j (by omega)]
  show ((n - m + j : Nat) : Int) * 977 ≠ _
  omega
theorem last_gone (b : ByteArray) (n m i : Nat) (hk : i < n - m) : keyI (lastN (entsF b n) m) ((i : Int) * 977) = -1 := by
  refine keyI_none _ _ fun j hj => ?_
  rw [last_at b n m j hj]
  show ((n - m + j : Nat) : Int) * 977 ≠ _
  omega
theorem match_there {b : ByteArray} {n m i : Nat} (h : i < n) (hk : n - m ≤ i) (b' : ByteArray) : matchV (lastN (entsF b n) m) ((i : Int) * 977) b' = (if b = b' then (i : Int) + 1 else 0) ∧ matchE (lastN (entsF b n) m) ((i : Int) * 977) b' = (if b = b' then 0 else 17) := by
  obtain ⟨e1, e2⟩ := last_there b n m i h hk
  have h0 : ¬ ((i - (n - m) : Nat) : Int) < 0 := by omega
  unfold matchV matchE
  rw [e1, if_neg h0, if_neg h0, Int.toNat_natCast, e2]
  exact ⟨rfl, rfl⟩
theorem match_gone {b : ByteArray} {n m i : Nat} (hk : i < n - m) (b' : ByteArray) : matchV (lastN (entsF b n) m) ((i : Int) * 977) b' = 0 ∧ matchE (lastN (entsF b n) m) ((i : Int) * 977) b' = 15 := by
  unfold matchV matchE
  rw [last_gone b n m i hk]
  exact ⟨rfl, rfl⟩
theorem longer_ne (b : ByteArray) (s : ByteArray) (h : 0 < s.size) : ¬ b = b ++ s := fun e => by
  have := congrArg ByteArray.size e
  rw [ByteArray.size_append] at this
  omega

set_option maxRecDepth 100000 in
set_option maxHeartbeats 400000 in
theorem last_law (l N : Nat) (hl : l < 256) (hN : N < 256) (body : ByteArray) (hbs : body.size ≤ 9223372036854775807) (w : World) :
    Calls Try.prog 4 #[.int .u8 (l : Int), .int .u8 (N : Int), .string body] w fun e w' => e = .returned (.bool true) ∧ Below w.heap.size w w' := by
  obtain ⟨k, hk⟩ : ∃ k, l % 64 = k := ⟨_, rfl⟩
  have hki : (l : Int) % 64 = (k : Int) := by omega
  have hk64 : k < 64 := by omega
  have hwk : IntKind.i64.wrap (k : Int) = k := by rw [IntKind.wrap_i64]; omega
  have hwN : IntKind.i64.wrap (N : Int) = N := by rw [IntKind.wrap_i64]; omega
  have HNEW := hide (show Calls Try.prog 6 #[.int .i64 (1 + (k : Int))] w fun e w' => ∃ p, e = .returned (.tuple #[.pointer (some ⟨p, 0, none⟩), .int .i64 0]) ∧ KeysAt w' p w.heap.size (k + 1) [] (.slice none 0 0) ∧ Below w.heap.size w w' from by
    have h := new_ok (k + 1) (by omega) (by omega) w
    rw [show ((k + 1 : Nat) : Int) = 1 + (k : Int) by omega] at h
    exact h)
  have HWK := hide (fun W => wakes24 W)
  clear hk hl
  go_enter Try.func4, Try.ntmps4
  go_upto_region 2 with (fail)
  simp only [hki]
  clear hki hwk
  go_cut [2] from 21 to 26 (fun s wx => ∃ bd : ByteArray, s = .string bd ∧ bd.size ≤ 200 ∧ w = wx)
  case first =>
    go_wp2_with fail
    all_goals
      go_meet
      exact ⟨_, rfl, by first | (rw [ByteArray.size_extract]; omega) | omega, rfl⟩
  case rest =>
    obtain ⟨bd, rfl, hbd, rfl⟩ := hcut
    clear hbs
    go_wp2_with fail
    refine HNEW.out.mono ?_
    rintro e w1 ⟨p, rfl, h1, hb⟩
    have K1 := hide h1
    have B1 := hide hb
    clear h1 hb
    go_wp2_with fail
    refine (HWK.out _).mono ?_
    rintro e w2 ⟨rfl, hb⟩
    have K2 := hide (K1.out.below hb)
    have B2 := hide (below_trans B1.out hb)
    clear hb
    go_wp2_with fail
    go_loopw [43] (fun i W => ∃ (j : Nat) (v : Value), j ≤ N ∧ i = .int .i64 j ∧ KeysAt W p w.heap.size (k + 1) (lastN (entsF bd j) (k + 1)) v ∧ Below w.heap.size w W) (fun i _ => N - (intOf i).toNat)
    case atStart => exact ⟨0, _, by omega, rfl, by rw [show lastN (entsF bd 0) (k + 1) = [] by simp [lastN, entsF]]; exact K2.out, B2.out⟩
    case round =>
      obtain ⟨j, v, hj, rfl, hK, hB⟩ := hrel
      have KJ := hide hK
      have BJ := hide hB
      clear hK hB
      by_cases hlt : j < N
      · have HPUT := hide (put_ok ((j : Int) * 977) ((j : Int) + 1) bd (by unfold rightE; dsimp only; omega) (lastN (entsF bd j) (k + 1)) (by rw [lastN_length]; omega) (last_new bd j (k + 1)) (k + 1) (by omega) (by omega) (by rw [lastN_length]; omega) p w.heap.size v wr KJ.out BJ.out.size)
        rw [lastN_put, show (⟨(j : Int) * 977, bd, (j : Int) + 1⟩ : Ent) = entF bd j from rfl, ← entsF_next] at HPUT
        go_wp2_with fail
        refine HPUT.out.mono ?_
        rintro e w3 ⟨v3, rfl, h3, ho, -⟩
        have K3 := hide h3
        have B3 := hide (BJ.out.trans (put_below KJ.out ho BJ.out.size))
        clear h3 ho
        go_wp2_with fail
        go_roundw
        case rel => exact ⟨j + 1, v3, by omega, by go_num, K3.out, B3.out⟩
        case measure => simp [intOf]; omega
      · obtain rfl : j = N := by omega
        have HLI := hide (fun W (h : KeysAt W p w.heap.size (k + 1) (lastN (entsF bd j) (k + 1)) v) => list24_any (lastN (entsF bd j) (k + 1)) (by rw [lastN_length]; omega) p w.heap.size (k + 1) v W h)
        have HLL := hide (show (lastN (entsF bd j) (k + 1)).length = min (k + 1) j by rw [lastN_length, entsF_length])
        have HMA := hide (fun b' i W (h : KeysAt W p w.heap.size (k + 1) (lastN (entsF bd j) (k + 1)) v) => match_any (lastN (entsF bd j) (k + 1)) (by rw [lastN_length]; omega) p w.heap.size (k + 1) v ((i : Int) * 977) b' W h)
        have HMT := hide (fun i (h : i < j) (hk : j - (k + 1) ≤ i) b' => match_there (b := bd) (m := k + 1) h hk b')
        have HMG := hide (fun i (hk : i < j - (k + 1)) b' => match_gone (b := bd) (n := j) (m := k + 1) hk b')
        go_wp2_with fail
        go_loopw [59] (fun i W => ∃ (i' : Nat), i' ≤ j ∧ i = .int .i64 i' ∧ KeysAt W p w.heap.size (k + 1) (lastN (entsF bd j) (k + 1)) v ∧ Below w.heap.size w W) (fun i _ => j - (intOf i).toNat)
        case atStart => exact ⟨0, by omega, rfl, KJ.out, BJ.out⟩
        case round =>
          obtain ⟨i, hi, rfl, hK, hB⟩ := hrel
          have KI := hide hK
          have BI := hide hB
          clear hK hB KJ BJ
          by_cases hlt2 : i < j
          · by_cases hkept : j - (k + 1) ≤ i
            · have HX1 := hide (HMA.out bd i wr KI.out)
              rw [(HMT.out i hlt2 hkept bd).1, (HMT.out i hlt2 hkept bd).2, if_pos rfl, if_pos rfl] at HX1
              have HX2 := hide (fun W h => HMA.out (bd ++ ⟨#[120]⟩) i W h)
              rw [(HMT.out i hlt2 hkept (bd ++ ⟨#[120]⟩)).1, (HMT.out i hlt2 hkept (bd ++ ⟨#[120]⟩)).2, if_neg (longer_ne bd _ (by decide)), if_neg (longer_ne bd _ (by decide))] at HX2
              have hkI : (j : Int) - (1 + (k : Int)) ≤ (i : Int) := by omega
              go_wp2_with fail
              refine HX1.out.mono ?_
              rintro e w3 ⟨rfl, hb⟩
              have K3 := hide (KI.out.below hb)
              have B3 := hide (below_trans BI.out hb)
              clear hb
              go_wp2_with fail
              refine (HX2.out _ K3.out).mono ?_
              rintro e w4 ⟨rfl, hb⟩
              have K4 := hide (K3.out.below hb)
              have B4 := hide (below_trans B3.out hb)
              clear hb
              go_wp2_with fail
              go_roundw
              case rel => exact ⟨i + 1, by omega, by go_num, K4.out, B4.out⟩
              case measure => simp [intOf]; omega
            · have HX1 := hide (HMA.out bd i wr KI.out)
              rw [(HMG.out i (by omega) bd).1, (HMG.out i (by omega) bd).2] at HX1
              have HX2 := hide (fun W h => HMA.out (bd ++ ⟨#[120]⟩) i W h)
              rw [(HMG.out i (by omega) (bd ++ ⟨#[120]⟩)).1, (HMG.out i (by omega) (bd ++ ⟨#[120]⟩)).2] at HX2
              have hkI : (i : Int) < (j : Int) - (1 + (k : Int)) := by omega
              go_wp2_with fail
              refine HX1.out.mono ?_
              rintro e w3 ⟨rfl, hb⟩
              have K3 := hide (KI.out.below hb)
              have B3 := hide (below_trans BI.out hb)
              clear hb
              go_wp2_with fail
              refine (HX2.out _ K3.out).mono ?_
              rintro e w4 ⟨rfl, hb⟩
              have K4 := hide (K3.out.below hb)
              have B4 := hide (below_trans B3.out hb)
              clear hb
              go_wp2_with fail
              go_roundw
              case rel => exact ⟨i + 1, by omega, by go_num, K4.out, B4.out⟩
              case measure => simp [intOf]; omega
          · obtain rfl : i = j := by omega
            go_wp2_with fail
            refine (HLI.out _ KI.out).mono ?_
            rintro e w3 ⟨a, c, rfl, ho, hb⟩
            have B3 := hide (below_trans BI.out hb)
            clear ho hb
            rw [HLL.out]
            go_wp2_with fail
            all_goals
              go_ret
              exact ⟨ret_bool (beq_iff_eq.2 (by omega)), B3.out⟩

theorem keysLast_walk (l : Int) (l0 : 0 ≤ l) (l1 : l ≤ 255) (n : Int) (n0 : 0 ≤ n) (n1 : n ≤ 255) (s : ByteArray) (hs : s.size ≤ 9223372036854775807) (w : World) :
    Calls Try.prog 4 #[.int .u8 l, .int .u8 n, .string s] w fun e w' => e = .returned (.bool true) ∧ Below w.heap.size w w' := by
  obtain ⟨a, rfl⟩ : ∃ a : Nat, (a : Int) = l := ⟨l.toNat, by omega⟩
  obtain ⟨b, rfl⟩ : ∃ b : Nat, (b : Int) = n := ⟨n.toNat, by omega⟩
  exact last_law a b (by omega) (by omega) s hs w

set_option maxRecDepth 100000 in
theorem keysLast_lifted (os : Os) (started : os.Started) (H : Type) (enc : TypeId × Value → H) :
    ReturnsInHanded {} Try.checked os 4 .any (Rows.keysLastSpec.pre6 enc Try.prog Try.f4 Rows.keysLastRow.domain false) (Rows.keysLastSpec.post enc Try.prog Try.f4 false true false false) := by
  refine returnsInHanded_of_change (C := Try.checked) own started (by kernel_rfl) Try.func4
    (ChangeSpec.witness6 (enc := enc) (C := Try.checked) false ⟨#[], #[.int .u8 0, .int .u8 0, .string ⟨#[]⟩], []⟩ 8 (by kernel_rfl) (by kernel_rfl) (by kernel_rfl) (by kernel_rfl)) ?_
  intro W base args ds gs before hval0 hW _ _
  have hval : ∀ (j : Nat) t v, Try.f4.params[j]? = some t → args[j]? = some v → Value.okWide Try.prog W .any base t v := hval0
  have hW' := hW
  obtain ⟨p, q, hA0, hV, rfl, hfz, hnd⟩ := hW
  have hA : DataW.TrodAll enc Try.prog W 0 (fun _ => true) true Try.f4.params.toList args.toList ds p := hA0
  rw [Try.params4] at hA hval
  obtain ⟨v0, vs0, d0, ds0, p0, q0, hargs, rfl, rfl, h0, r0⟩ := trodAll_cons hA
  obtain ⟨v1, vs1, d1, ds1, p1, q1, rfl, rfl, rfl, h1, r1⟩ := trodAll_cons r0
  obtain ⟨v2, vs2, d2, ds2, p2, q2, rfl, rfl, rfl, h2, r2⟩ := trodAll_cons r1
  obtain ⟨rfl, rfl, rfl⟩ := trodAll_nil r2
  obtain rfl : args = #[v0, v1, v2] := by cases args; simp_all
  obtain ⟨rfl, rfl⟩ := trodVars_none hV
  obtain ⟨l, rfl, rfl, rfl, w0⟩ := open_int Try.underlying5 (hval 0 5 v0 rfl rfl) h0
  have z0 := wf_u8 w0
  obtain ⟨n, rfl, rfl, rfl, w1⟩ := open_int Try.underlying5 (hval 1 5 v1 rfl rfl) h1
  have z1 := wf_u8 w1
  obtain ⟨s, rfl, rfl, rfl, w2⟩ := ChangeMaps.open_string Try.underlying9 (hval 2 9 v2 rfl rfl) h2
  have z2 : s.size ≤ 9223372036854775807 := w2
  clear hA0 hval0
  refine (keysLast_walk l z0.1 z0.2 n z1.1 z1.2 s z2 W).mono fun e W' ⟨he, hb⟩ => ?_
  subst he
  exact ⟨_, rfl, post_law laidOut (of_decide_eq_true (by kernel_rfl)) rfl rfl Try.underlying4 hW' ⟨rfl, rfl, rfl⟩ hb⟩

/-- THE STATEMENT -/
theorem keysLast_holds : Rows.KeysLastSaid :=
  OpenClaim.holds_of_wide 4 Try.f4 rfl rfl rfl rfl rfl rfl rfl ⟨rfl, rfl, rfl, rfl, rfl⟩ rfl rfl rfl rfl rfl (by kernel_rfl) Try.func4 (by kernel_rfl)
    (of_decide_eq_true (by kernel_rfl)) (by unfold Func.isWrapper; first | (rw [if_pos (by decide +kernel)]; kernel_rfl) | (rw [if_neg (by decide +kernel)]; exact ⟨rfl, rfl⟩))
    (fun os started H enc _ => keysLast_lifted os started H enc)

end Go.Proofs.Ytmomjefbifoliaa
