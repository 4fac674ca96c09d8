/-
  PostChecks: which postings may be, their contra ones, and what they have on every account, is the document's answer. No condition.
-/
import Derived.Test.YtjjldphbflbbdaaPost12
--import Derived.Test.Zdbg
namespace Go.Proofs.Ytjjldphbflbbdaa
set_option linter.unusedSimpArgs false
set_option linter.unusedVariables false
open Go.RowKit Go.WideShapes Go.ChangeShapes Go.ChangeAt Go.Deep

def qL (Z : List LnM) : List LnM := if leastIn Z = true then [] else negL Z
def qE (Z : List LnM) : Int := if leastIn Z = true then 6 else 0
theorem qL_len (Z : List LnM) : (qL Z).length ≤ Z.length := by
  unfold qL
  split
  · exact Nat.zero_le _
  · rw [negL_len]; exact Nat.le_refl _
theorem con_q {Z : List LnM} {w w' : World} {e : Ending} (h : ConIs Z w e w') : ∃ a c, e = .returned (.tuple #[.slice a (qL Z).length c, .int .i64 (qE Z)]) ∧ LnIn w' a (qL Z) ∧ Below w.heap.size w w' := by
  obtain ⟨⟨hl, a, c, rfl, hc, hin⟩ | ⟨hl, rfl⟩, hb⟩ := h
  · have h1 : qL Z = negL Z := by unfold qL; rw [if_neg (by rw [hl]; decide)]
    have h2 : qE Z = 0 := by unfold qE; rw [if_neg (by rw [hl]; decide)]
    rw [h1, h2]
    exact ⟨a, c, by rw [negL_len], hin, hb⟩
  · have h1 : qL Z = [] := by unfold qL; rw [if_pos hl]
    have h2 : qE Z = 6 := by unfold qE; rw [if_pos hl]
    rw [h1, h2]
    exact ⟨none, 0, rfl, fun i hi => absurd hi (Nat.not_lt_zero i), hb⟩
structure St22 (w W : World) (p bm : Nat) (aa a a2 : Option Addr) (g : Nat) (cs : Array Value) (L E : List LnM) : Prop where
  chart : ChartAt W p bm 5
  acc : AcIn W aa (accL 5)
  blk : W.heap[g]? = some (.cells cs 22 (0, 0))
  inL : LnIn W a L
  inE : LnIn W a2 E
  low : Below w.heap.size w W
theorem St22.below {w W W' : World} {p bm : Nat} {aa a a2 : Option Addr} {g : Nat} {cs : Array Value} {L E : List LnM} (h : St22 w W p bm aa a a2 g cs L E) (hb : Below W.heap.size W W') : St22 w W' p bm aa a a2 g cs L E :=
  ⟨h.chart.below hb, h.acc.below hb, (hb.block _ (heap_lt h.blk)).trans h.blk, h.inL.below hb, h.inE.below hb, h.low.trans (hb.mono h.low.size)⟩
def BothIn (W : World) (u1 u2 : Option Addr) (Z : List LnM) : Prop := LnIn W u1 Z ∧ LnIn W u2 Z
theorem BothIn.below {W W' : World} {u1 u2 : Option Addr} {Z : List LnM} (h : BothIn W u1 u2 Z) (hb : Below W.heap.size W W') : BothIn W' u1 u2 Z := ⟨h.1.below hb, h.2.below hb⟩
set_option maxRecDepth 100000 in
set_option maxHeartbeats 400000 in
theorem postChecks_walk (L : List LnM) (a : Option Addr) (cap : Nat) (hcap : L.length ≤ cap) (h63 : L.length ≤ 9223372036854775807) (acct : Int) (a0 : -9223372036854775808 ≤ acct) (a1 : acct ≤ 9223372036854775807) (w : World) (hin : LnIn w a L) (hok : ∀ x ∈ L, LnOk x) :
    Calls Try.prog 3 #[.slice a L.length cap, .int .i64 acct] w fun e w' => e = .returned (.bool true) ∧ Below w.heap.size w w' := by
  have HIN := hide hin
  have HOKL := hide hok
  have HCAP := hide hcap
  have HEV := hide (fun W (hW : LnIn W a L) => even_any L a cap hcap h63 hok W hW)
  have HOKE := hide (ev_lnok _ (evenL_ok L))
  clear hin hok hcap
  go_enter Try.func3, Try.ntmps3
  go_wp2_with fail
  refine (accounts_any _).mono ?_
  rintro e w1 ⟨p, bm, aa, cc, rfl, hc, hac, hb⟩
  have C1 := hide hc
  have A1 := hide hac
  have B1 := hide hb
  have I1 := hide (HIN.out.below hb)
  clear hc hac hb HIN
  go_wp2_with fail
  refine (HEV.out _ I1.out).mono ?_
  rintro e w2 ⟨a2, c2, rfl, hc2, hin2, hb⟩
  have HC2 := hide hc2
  generalize hE : evenL L = E at *
  go_upto_region 3 with (fail)
  have hal := hb.alloc hb.size (.cells #[.slice a L.length cap, .slice a2 E.length c2] 22)
  have S3 := hide (show St22 w (w2.alloc (.cells #[.slice a L.length cap, .slice a2 E.length c2] 22)) p bm aa a a2 w2.heap.size #[.slice a L.length cap, .slice a2 E.length c2] L E from
    ⟨C1.out.below hal, A1.out.below hal, heap_new _ _, I1.out.below hal, hin2.below ((Below.refl _ _).alloc (Nat.le_refl _) _), B1.out.trans (hal.mono B1.out.size)⟩)
  clear hin2 hb hal C1 A1 B1 I1 HEV hc2 hE
  generalize w2.alloc (.cells #[.slice a L.length cap, .slice a2 E.length c2] 22) = w3 at *
  generalize w2.heap.size = g at *
  go_loopw [30] (fun i W => ∃ j : Nat, j ≤ 2 ∧ i = .int .i64 j ∧ St22 w W p bm aa a a2 g #[.slice a L.length cap, .slice a2 E.length c2] L E) (fun i _ => 2 - (intOf i).toNat)
  case atStart => exact ⟨0, by omega, rfl, S3.out⟩
  case round =>
    obtain ⟨j, hj, rfl, hs⟩ := hrel
    have SJ := hide hs
    clear hs S3
    by_cases hlt : j < 2
    · have cz := cell_of_block SJ.out.blk j
      obtain ⟨X, ax, cx, hcell, hX, hxc, hxo⟩ : ∃ (X : List LnM) (ax : Option Addr) (cx : Nat), (#[Value.slice a L.length cap, .slice a2 E.length c2] : Array Value)[j]? = some (.slice ax X.length cx) ∧ LnIn wr ax X ∧ X.length ≤ cx ∧ ∀ x ∈ X, LnOk x := by
        have h0 : j = 0 ∨ j = 1 := by omega
        rcases h0 with rfl | rfl
        · exact ⟨L, a, cap, rfl, SJ.out.inL, HCAP.out, HOKL.out⟩
        · exact ⟨E, a2, c2, rfl, SJ.out.inE, HC2.out, HOKE.out⟩
      rw [hcell] at cz
      have HLI := hide (lines_any X ax cx (min X.length 20) rfl hxc wr hX)
      have HXO := hide hxo
      clear hcell hX hxc hxo
      go_wp2_with fail
      refine HLI.out.mono ?_
      rintro e w4 ⟨u1, k1, u2, k2, rfl, -, -, hp, hq, hb⟩
      have S4 := hide (SJ.out.below hb)
      obtain ⟨Z, hZ⟩ : ∃ Z, X.take (min X.length 20) = Z := ⟨_, rfl⟩
      have hZl : min X.length 20 = Z.length := by rw [← hZ, List.length_take]; omega
      have HZ20 := hide (show Z.length ≤ 20 by rw [← hZl]; omega)
      have HZO := hide (show ∀ x ∈ Z, LnOk x from fun x hx => HXO.out x (List.mem_of_mem_take (hZ ▸ hx)))
      rw [hZ] at hp hq
      rw [hZl]
      have Z4 := hide (show BothIn w4 u1 u2 Z from ⟨hp, hq⟩)
      clear hp hq hb SJ HLI HXO hZ hZl cz
      have HCO := hide (contra_any Z (by have := HZ20.out; omega) (fun x hx => (HZO.out x hx).2) u1 k1 w4 Z4.out.1)
      go_wp2_with fail
      refine HCO.out.mono ?_
      intro e w5 hcon
      obtain ⟨b3, d3, rfl, hq3, hb⟩ := con_q hcon
      have S5 := hide (S4.out.below hb)
      have Z5 := hide (Z4.out.below hb)
      have Q5 := hide hq3
      clear hcon hq3 hb S4 Z4 HCO
      have HCO := hide (rcontra_any Z (by have := HZ20.out; omega) (fun x hx => (HZO.out x hx).2) u2 k2 w5 Z5.out.2)
      go_wp2_with fail
      refine HCO.out.mono ?_
      intro e w6 hcon
      obtain ⟨b4, d4, rfl, hq4, hb⟩ := con_q hcon
      have S6 := hide (S5.out.below hb)
      have Z6 := hide (Z5.out.below hb)
      have Q6 := hide (Q5.out.below hb)
      have R6 := hide hq4
      clear hcon hq4 hb S5 Z5 Q5 HCO
      have HQL := hide (qL_len Z)
      generalize qL Z = qz at *
      generalize qE Z = qe at *
      have HK := hide (check_any p bm 5 Z (by have := HZ20.out; omega) HZO.out u1 k1 w6 Z6.out.1 S6.out.chart)
      have HK2 := hide (fun W (hW : BothIn W u1 u2 Z) (hA : AcIn W aa (accL 5)) => rcheck_any Z (by have := HZ20.out; omega) HZO.out u2 k2 aa cc W hW.2 hA)
      generalize chkE 5 Z = ce at *
      go_wp2_with fail
      refine HK.out.mono ?_
      rintro e w7 ⟨rfl, hb⟩
      have S7 := hide (S6.out.below hb)
      have Z7 := hide (Z6.out.below hb)
      have Q7 := hide (Q6.out.below hb)
      have R7 := hide (R6.out.below hb)
      clear hb S6 Z6 Q6 R6 HK
      go_wp2_with fail
      refine (HK2.out _ Z7.out S7.out.acc).mono ?_
      rintro e w8 ⟨rfl, hb⟩
      have S8 := hide (S7.out.below hb)
      have Z8 := hide (Z7.out.below hb)
      have Q8 := hide (Q7.out.below hb)
      have R8 := hide (R7.out.below hb)
      clear hb S7 Z7 Q7 R7 HK2
      go_wp2_with fail
      refine (same_eq qz (by have := HQL.out; have := HZ20.out; omega) b3 b4 d3 d4 w8 Q8.out R8.out).mono ?_
      rintro e w9 ⟨rfl, hb⟩
      have S9 := hide (S8.out.below hb)
      have Z9 := hide (Z8.out.below hb)
      clear hb S8 Z8 Q8 R8
      go_wp2_with fail
      refine (check_nil _ _).mono ?_
      rintro e w9' ⟨rfl, rfl⟩
      go_upto_region 11 with (fail)
      have hal := (Below.refl w9.heap.size w9).alloc (Nat.le_refl _) (.cells #[.int .i64 acct, .int .i64 1, .int .i64 5] 3)
      have X10 := hide (heap_new w9 (.cells #[.int .i64 acct, .int .i64 1, .int .i64 5] 3))
      have S10 := hide (S9.out.below hal)
      have Z10 := hide (Z9.out.below hal)
      clear hal S9 Z9
      generalize w9.alloc (.cells #[.int .i64 acct, .int .i64 1, .int .i64 5] 3) = w10 at *
      generalize w9.heap.size = g4 at *
      go_loopw [75] (fun i W => ∃ t : Nat, t ≤ 3 ∧ i = .int .i64 t ∧ BothIn W u1 u2 Z ∧ W.heap[g4]? = some (.cells #[.int .i64 acct, .int .i64 1, .int .i64 5] 3 (0, 0)) ∧ St22 w W p bm aa a a2 g #[.slice a L.length cap, .slice a2 E.length c2] L E) (fun i _ => 3 - (intOf i).toNat)
      case atStart => exact ⟨0, by omega, rfl, Z10.out, X10.out, S10.out⟩
      case round =>
        obtain ⟨t, ht, rfl, hz, hx, hs⟩ := hrel
        have ZT := hide hz
        have XT := hide hx
        have ST := hide hs
        clear hz hx hs Z10 X10 S10
        by_cases hlt4 : t < 3
        · have cz := cell_of_block XT.out t
          obtain ⟨z, hz⟩ : ∃ z : Int, (#[Value.int .i64 acct, .int .i64 1, .int .i64 5] : Array Value)[t]? = some (.int .i64 z) := by
            have h0 : t = 0 ∨ t = 1 ∨ t = 2 := by omega
            rcases h0 with rfl | rfl | rfl
            · exact ⟨acct, rfl⟩
            · exact ⟨1, rfl⟩
            · exact ⟨5, rfl⟩
          rw [hz] at cz
          clear hz
          have HO := hide (pon_any z Z (by have := HZ20.out; omega) (fun x hx => (HZO.out x hx).2) u1 k1 wr ZT.out.1)
          have HO2 := hide (fun W (hW : BothIn W u1 u2 Z) => ron_post z Z (by have := HZ20.out; omega) (fun x hx => (HZO.out x hx).2) u2 k2 W hW.2)
          generalize (onL z Z).sum = sz at *
          go_wp2_with fail
          refine HO.out.mono ?_
          rintro e x1 ⟨rfl, hb⟩
          have Z1 := hide (ZT.out.below hb)
          have X1 := hide ((hb.block _ (heap_lt XT.out)).trans XT.out)
          have S1 := hide (ST.out.below hb)
          clear hb ZT XT ST HO cz
          go_wp2_with fail
          refine (HO2.out _ Z1.out).mono ?_
          rintro e x2 ⟨rfl, hb⟩
          have Z2 := hide (Z1.out.below hb)
          have X2 := hide ((hb.block _ (heap_lt X1.out)).trans X1.out)
          have S2 := hide (S1.out.below hb)
          clear hb Z1 X1 S1 HO2
          go_wp2_with fail
          go_roundw
          case rel => exact ⟨t + 1, by omega, by go_num, Z2.out, X2.out, S2.out⟩
          case measure => simp [intOf]; omega
        · obtain rfl : t = 3 := by omega
          rw [show ((3 : Nat) : Int) = 3 from rfl]
          go_wp2_with fail
          refine (same_eq Z (by have := HZ20.out; omega) u1 u2 k1 k2 wr ZT.out.1 ZT.out.2).mono ?_
          rintro e x1 ⟨rfl, hb⟩
          have S1 := hide (ST.out.below hb)
          clear hb ZT XT ST
          go_wp2_with fail
          go_roundw
          case rel => exact ⟨j + 1, by omega, by go_num, S1.out⟩
          case measure => simp [intOf]; omega
    · obtain rfl : j = 2 := by omega
      rw [show ((2 : Nat) : Int) = 2 from rfl]
      go_wp2_with fail
      refine (wakes22 _).mono ?_
      rintro e w6 ⟨rfl, hb⟩
      have B6 := hide (SJ.out.low.trans (hb.mono SJ.out.low.size))
      clear hb SJ
      go_wp2_with fail
      go_ret
      exact ⟨rfl, B6.out⟩

set_option maxRecDepth 100000 in
theorem postChecks_lifted (os : Os) (started : os.Started) (H : Type) (enc : TypeId × Value → H) :
    ReturnsInHanded {} Try.checked os 3 .any (Rows.postChecksSpec.pre6 enc Try.prog Try.f3 Rows.postChecksRow.domain false) (Rows.postChecksSpec.post enc Try.prog Try.f3 false true false false) := by
  refine returnsInHanded_of_change (C := Try.checked) own started (by kernel_rfl) Try.func3
    (ChangeSpec.witness6 (enc := enc) (C := Try.checked) false ⟨#[], #[.slice none 0 0, .int .i64 0], []⟩ 8 (by kernel_rfl) (by kernel_rfl) (by kernel_rfl) (by kernel_rfl)) ?_
  intro W base args ds gs before hval0 hW _ _
  have hval : ∀ (j : Nat) t v, Try.f3.params[j]? = some t → args[j]? = some v → Value.okWide Try.prog W .any base t v := hval0
  have hW' := hW
  obtain ⟨p, q, hA0, hV, rfl, hfz, hnd⟩ := hW
  have hA : DataW.TrodAll enc Try.prog W 0 (fun _ => true) true Try.f3.params.toList args.toList ds p := hA0
  rw [Try.params3] at hA hval
  obtain ⟨v0, vs0, d0, ds0, p0, q0, hargs, rfl, rfl, h0, r0⟩ := trodAll_cons hA
  obtain ⟨v1, vs1, d1, ds1, p1, q1, rfl, rfl, rfl, h1, r1⟩ := trodAll_cons r0
  obtain ⟨rfl, rfl, rfl⟩ := trodAll_nil r1
  obtain rfl : args = #[v0, v1] := by cases args; simp_all
  obtain ⟨rfl, rfl⟩ := trodVars_none hV
  obtain ⟨a, L, cap, rfl, hc, h63, hin, hok⟩ := open_lines (hval 0 22 v0 rfl rfl) h0
  obtain ⟨account, rfl, rfl, rfl, w1⟩ := open_int Try.underlying3 (hval 1 3 v1 rfl rfl) h1
  have z1 := wf_i64 w1
  clear hA0 hval0
  refine (postChecks_walk L a cap hc h63 account z1.1 z1.2 W hin hok).mono fun e W' ⟨he, hb⟩ => ?_
  subst he
  exact ⟨_, rfl, post_law laidOut (of_decide_eq_true (by kernel_rfl)) rfl rfl Try.underlying4 hW' ⟨rfl, rfl, rfl⟩ hb⟩

/-- THE STATEMENT -/
theorem postChecks_holds : Rows.PostChecksSaid :=
  OpenClaim.holds_of_wide 3 Try.f3 rfl rfl rfl rfl rfl rfl rfl ⟨rfl, rfl, rfl, rfl, rfl⟩ rfl rfl rfl rfl rfl (by kernel_rfl) Try.func3 (by kernel_rfl)
    (of_decide_eq_true (by kernel_rfl)) (by unfold Func.isWrapper; first | (rw [if_pos (by decide +kernel)]; kernel_rfl) | (rw [if_neg (by decide +kernel)]; exact ⟨rfl, rfl⟩))
    (fun os started H enc _ => postChecks_lifted os started H enc)


end Go.Proofs.Ytjjldphbflbbdaa
