/-
  Layer 24's laws, walked: KeysOrder.
-/
import Derived.Test.YtmomjefbifoliaaKeys6
import Derived.Test.YtmomjefbifoliaaLaw24
--import Derived.Test.Zdbg
namespace Go.Proofs.Ytmomjefbifoliaa
set_option linter.unusedSimpArgs false
set_option linter.unusedVariables false
open Go.RowKit Go.WideShapes Go.ChangeShapes Go.ChangeAt

theorem keyI_first (L : List Ent) (key : Int) : (keyI L key = -1 ∧ ∀ j, j < L.length → (L.getD j ent0).k ≠ key) ∨ ∃ k : Nat, k < L.length ∧ keyI L key = (k : Int) ∧ (L.getD k ent0).k = key ∧ ∀ j, j < k → (L.getD j ent0).k ≠ key := by
  induction L with
  | nil => exact .inl ⟨rfl, fun j hj => by simp at hj⟩
  | cons x L ih =>
    by_cases hx : x.k = key
    · exact .inr ⟨0, by simp, by simp [keyI, hx], by simpa using hx, fun j hj => by omega⟩
    · rcases ih with ⟨h1, h2⟩ | ⟨k, h1, h2, h3, h4⟩
      · refine .inl ⟨by rw [keyI, if_neg hx, h1]; decide, fun j hj => ?_⟩
        cases j with
        | zero => simpa using hx
        | succ j => simpa using h2 j (by simpa using hj)
      · refine .inr ⟨k + 1, by simpa using h1, by rw [keyI, if_neg hx, h2, if_neg (by omega)]; omega, by simpa using h3, fun j hj => ?_⟩
        cases j with
        | zero => simpa using hx
        | succ j => simpa using h4 j (by omega)
theorem ks_at (L : List Ent) (i : Nat) (h : i < L.length) : (L.map Ent.k).getD i 0 = (L.getD i ent0).k := by simp [List.getD, h]
theorem ks_put (L : List Ent) (m : Nat) (x : Ent) : (putL' L m x).map Ent.k = (L.map Ent.k ++ [x.k]).drop (L.length + 1 - m) := by simp [putL', List.map_drop]
theorem putL_length (L : List Ent) (m : Nat) (x : Ent) (h : L.length ≤ m) (h1 : 1 ≤ m) : (putL' L m x).length ≤ m := by simp [putL']; omega
theorem KeysAt.drewN {w : World} {p B lim : Nat} {L : List Ent} {v : Value} (h : KeysAt w p B lim L v) (n : Nat) : KeysAt (w.drewN n) p B lim L v := ⟨h.head, h.owns, h.base⟩
theorem WantAt.drewN {w : World} {B : Nat} {a : Option Addr} {c : Nat} {ks : List Int} (h : WantAt w B a c ks) (n : Nat) : WantAt (w.drewN n) B a c ks := h
theorem below24N {B : Nat} {a b : World} (h : Below B a b) (n : Nat) : Below B a (b.drewN n) := ⟨h.os, h.tape, h.output, h.size, h.block⟩
/-- numbers of a byte each that come in -/
def BytesIn (w : World) (a : Option Addr) (xs : List Nat) : Prop := ∀ i, i < xs.length → ∃ b off, a = some ⟨b, off, none⟩ ∧ b < w.heap.size ∧ w.cell? ⟨b, off + i, none⟩ = some (.int .u8 ((xs.getD i 0 : Nat) : Int))

set_option maxRecDepth 100000 in
set_option maxHeartbeats 400000 in
theorem order24 (a : Option Addr) (cap : Nat) (xs : List Nat) (hxs : ∀ x ∈ xs, x < 256) (hcap : xs.length ≤ cap) (hx63 : xs.length ≤ 9223372036854775807) (l : Nat) (hl : l < 256) (w : World) (hin : BytesIn w a xs) :
    Calls Try.prog 5 #[.slice a xs.length cap, .int .u8 (l : Int)] w fun e w' => e = .returned (.bool true) ∧ Below w.heap.size w w' := by
  have HIN := hide hin
  have HXS := hide hxs
  obtain ⟨k, hk⟩ : ∃ k, l % 10 = k := ⟨_, rfl⟩
  have hki : (l : Int) % 10 = (k : Int) := by omega
  have hk10 : k < 10 := by omega
  have hwk : IntKind.i64.wrap (k : Int) = k := by rw [IntKind.wrap_i64]; omega
  obtain ⟨n, hn⟩ : ∃ n : Nat, min xs.length 50 = n := ⟨_, rfl⟩
  have hn1 : n ≤ xs.length := by omega
  have hn2 : n ≤ 50 := by omega
  have hmF : (if (50 : Int) < (xs.length : Int) then (50 : Int) else (xs.length : Int)) = (n : Int) := by split <;> omega
  have hcI : (n : Int) ≤ (cap : Int) := by omega
  have HNEW := hide (show Calls Try.prog 6 #[.int .i64 (1 + (k : Int))] w fun e w' => ∃ p, e = .returned (.tuple #[.pointer (some ⟨p, 0, none⟩), .int .i64 0]) ∧ KeysAt w' p w.heap.size (k + 1) [] (.slice none 0 0) ∧ Below w.heap.size w w' from by
    have h := new_ok (k + 1) (by omega) (by omega) w
    rw [show ((k + 1 : Nat) : Int) = 1 + (k : Int) by omega] at h
    exact h)
  have HWK := hide (fun W => wakes24 W)
  clear hk hl hin hxs
  go_enter Try.func5, Try.ntmps5
  go_wp2_with fail
  refine HNEW.out.mono ?_
  rintro e w1 ⟨p, rfl, h1, hb⟩
  have K1 := hide h1
  have B1 := hide hb
  clear h1 hb
  go_wp2_with fail
  refine (HWK.out _).mono ?_
  rintro e w2 ⟨rfl, hb⟩
  have K2 := hide (K1.out.below hb)
  have B2 := hide (below_trans B1.out hb)
  clear hb
  go_wp2_with fail
  go_loopw [8, 42] (fun s i W => ∃ (j : Nat) (L : List Ent) (v : Value) (wa : Option Addr) (wc : Nat), j ≤ n ∧ i = .int .i64 j ∧ s = .slice wa L.length wc ∧ L.length ≤ k + 1 ∧ KeysAt W p w.heap.size (k + 1) L v ∧ WantAt W w.heap.size wa wc (L.map Ent.k) ∧ Below w.heap.size w W) (fun _ i _ => n - (intOf i).toNat)
  case atStart => exact ⟨0, [], _, none, 0, by omega, rfl, rfl, by simp, K2.out, .inl ⟨rfl, rfl, rfl⟩, B2.out⟩
  case round =>
    obtain ⟨j, L, v, wa, wc, hj, rfl, rfl, hLk, hK, hW, hB⟩ := hrel
    have KJ := hide hK
    have WJ := hide hW
    have BJ := hide hB
    clear hK hW hB
    by_cases hlt : j < n
    · obtain ⟨b, off, rfl, hbw, q0⟩ := HIN.out j (by omega)
      have d0 := (BJ.out.cell (p := ⟨b, off + j, none⟩) hbw).trans q0
      have hx8 : xs.getD j 0 < 256 := by
        rw [List.getD, List.getElem?_eq_getElem (show j < xs.length by omega)]
        exact HXS.out _ (List.getElem_mem _)
      clear q0 hbw
      generalize xs.getD j 0 = x at *
      obtain ⟨y, hy⟩ : ∃ y, x % 20 = y := ⟨_, rfl⟩
      have hyi : (x : Int) % 20 = (y : Int) := by omega
      have hy20 : y < 20 := by omega
      have hwy : IntKind.u64.wrap (y : Int) = y := by rw [IntKind.wrap_u64]; omega
      clear hy
      rcases keyI_first L (y : Int) with ⟨e1, hno⟩ | ⟨q, hq, e1, hat, hno⟩
      · have HPUT := hide (put_ok (y : Int) ((j : Int) + 1) ⟨#[]⟩ (by unfold rightE; dsimp only; exact ⟨by decide, by omega, by omega⟩) L (by omega) e1 (k + 1) (by omega) (by omega) (by omega) p w.heap.size v wr KJ.out BJ.out.size)
        have HNO := hide hno
        clear hno e1
        go_wp2_with fail
        refine HPUT.out.mono ?_
        rintro e w3 ⟨v3, rfl, h3, ho, -⟩
        have K3 := hide h3
        have W3 := hide (WJ.out.turns (put_turns KJ.out ho) (by decide))
        have B3 := hide (BJ.out.trans (put_below KJ.out ho BJ.out.size))
        have HKS := hide (ks_put L (k + 1) ⟨(y : Int), ⟨#[]⟩, (j : Int) + 1⟩)
        have HLL := hide (putL_length L (k + 1) ⟨(y : Int), ⟨#[]⟩, (j : Int) + 1⟩ hLk (by omega))
        generalize putL' L (k + 1) ⟨(y : Int), ⟨#[]⟩, (j : Int) + 1⟩ = L' at *
        clear h3 ho
        go_wp2_with fail
        go_loop [12, 57] (fun t i => ∃ j' : Nat, j' ≤ L.length ∧ i = .int .i64 j' ∧ t = .bool false) (fun _ i => L.length - (intOf i).toNat)
        case atStart => exact ⟨0, by omega, rfl, rfl⟩
        case round =>
          obtain ⟨j', hj', rfl, rfl⟩ := hrel
          by_cases hlt2 : j' < L.length
          · obtain ⟨g, o, rfl, hg, c0⟩ := W3.out.at j' (by simpa using hlt2)
            rw [ks_at L j' hlt2] at c0
            have hne := HNO.out j' hlt2
            generalize (L.getD j' ent0).k = z at *
            have hnb : (z == (y : Int)) = false := by simpa using hne
            clear hne
            go_wp2_with fail
            go_round
            case rel => exact ⟨j' + 1, by omega, by go_num, rfl⟩
            case measure => simp [intOf]; omega
          · obtain rfl : j' = L.length := by omega
            have XB := hide (heap_new w3 (.cells #[.int .u64 (y : Int)] 29))
            have B4 := hide (B3.out.alloc B3.out.size (.cells #[.int .u64 (y : Int)] 29))
            have T4 := hide (Turns.of_below (Ts := []) ((Below.refl w3.heap.size w3).alloc (Nat.le_refl _) (.cells #[.int .u64 (y : Int)] 29)))
            have W4 := hide (W3.out.turns T4.out (by simp))
            have K4 := hide (K3.out.turns T4.out (by simp) (by simp))
            have HXA := hide (fun g o (e : wa = some ⟨g, o, none⟩) => show g ≠ w3.heap.size from by
              rcases W3.out with ⟨h1, _⟩ | ⟨g', o', cur, h2, h3, h4, _⟩
              · rw [h1] at e; cases e
              · rw [h2] at e
                simp only [Option.some.injEq, Addr.mk.injEq, and_true] at e
                have := heap_lt h4
                omega)
            have HWA := want_append 55 55 Try.underlying55 _ w.heap.size B4.out.size wa wc (L.map Ent.k) (by simp; omega) W4.out (y : Int) w3.heap.size XB.out HXA.out
            rw [List.length_map] at HWA
            obtain ⟨g, o, c5, w5, hrun, hw5, ht5, hb5⟩ := HWA
            have HRUN := hide hrun
            have K5 := hide (K4.out.turns ht5 (by simp) (by simp))
            have B5 := hide (B4.out.trans hb5)
            have WC := hw5.cap
            rw [List.length_append, List.length_map, List.length_singleton] at WC
            obtain ⟨d, hd⟩ : ∃ d, L.length + 1 - (k + 1) = d := ⟨_, rfl⟩
            have W5 := hide (hw5.drop d (by simp; omega))
            rw [hd] at HKS
            rw [← HKS.out] at W5
            have hLL := congrArg List.length HKS.out
            rw [List.length_map, List.length_drop, List.length_append, List.length_map, List.length_singleton] at hLL
            have HL2 := hide hLL
            have hmx : (if 1 + (k : Int) < (L.length : Int) + 1 then (L.length : Int) + 1 - (1 + (k : Int)) else 0) = (d : Int) := by split <;> omega
            have hd1 : (d : Int) ≤ (L.length : Int) + 1 := by omega
            have hcd : ¬ c5 = d := by omega
            have HD := hide hd
            clear hd hrun hw5 ht5 hb5 hLL XB B4 T4 W4 K4 HXA HPUT HNO K3 W3 B3 HKS
            go_wp2_with (at_builtin; refine wpList_append_run _ rfl _ _ 55 rfl _ _ _ _ rfl rfl HRUN.out ?_; clear HRUN)
            simp only [← HL2.out]
            have hLB := HLL.out
            clear hmx hd1 hcd WC hlt2 hj'
            refine (list24_any L' (by omega) p _ _ v3 _ K5.out).mono ?_
            rintro e w6 ⟨ga, gc, rfl, ho, hb⟩
            have K6 := hide (K5.out.below hb)
            have W6 := hide (W5.out.turns (Ts := []) (Turns.of_below hb) (by simp))
            have B6 := hide (below_trans B5.out hb)
            have O6 := hide ho
            clear ho hb K5 W5 B5
            go_wp2_with fail
            go_loopw [106] (fun i W => ∃ (i' : Nat) (B7 : Nat), i' ≤ L'.length ∧ i = .int .i64 i' ∧ KeysAt W p w.heap.size (k + 1) L' v3 ∧ WantAt W w.heap.size (some ⟨g, o + d, none⟩) (c5 - d) (L'.map Ent.k) ∧ W.ownsRow B7 37 3 (.slice ga L'.length gc) L'.length (L'.flatMap entC) ∧ Below w.heap.size w W) (fun i _ => L'.length - (intOf i).toNat)
            case atStart => exact ⟨0, _, by omega, rfl, K6.out, W6.out, O6.out, B6.out⟩
            case round =>
              obtain ⟨i, B7, hi, rfl, hK, hW, hO, hB⟩ := hrel
              have K7 := hide hK
              have W7 := hide hW
              have O7 := hide hO
              have B8 := hide hB
              clear hK hW hO hB K6 W6 O6 B6
              by_cases hlt3 : i < L'.length
              · obtain ⟨g7, rfl, _, c0, _, _⟩ := ents_at O7.out i hlt3
                obtain ⟨gw, ow, hwa, _, c1⟩ := W7.out.at i (by simpa using hlt3)
                rw [ks_at L' i hlt3] at c1
                simp only [Option.some.injEq, Addr.mk.injEq, and_true] at hwa
                obtain ⟨rfl, rfl⟩ := hwa
                generalize (L'.getD i ent0).k = z at *
                go_wp2_with fail
                go_quiet (fail)
                go_wp2_with fail
                go_roundw
                case rel => exact ⟨i + 1, B7, by omega, by go_num, K7.out.drewN _, W7.out.drewN _, O7.out, below24N B8.out _⟩
                case measure => simp [intOf]; omega
              · obtain rfl : i = L'.length := by omega
                go_wp2_with fail
                go_roundw
                case rel => exact ⟨j + 1, L', v3, (some ⟨g, o + d, none⟩), (c5 - d), by omega, by go_num, rfl, by omega, K7.out, W7.out, B8.out⟩
                case measure => simp [intOf]; omega
      · have hthere := put_there (y : Int) ((j : Int) + 1) ⟨#[]⟩ (by unfold rightE; dsimp only; exact ⟨by decide, by omega, by omega⟩) L (by omega) (by rw [e1]; omega) p w.heap.size (k + 1) v wr KJ.out
        have HPUT := hide hthere
        have HNO := hide hno
        have HAT := hide hat
        clear hno e1 hthere hat
        go_wp2_with fail
        refine HPUT.out.mono ?_
        rintro e w3 ⟨rfl, hb⟩
        have K3 := hide (KJ.out.below hb)
        have W3 := hide (WJ.out.turns (Ts := []) (Turns.of_below hb) (by simp))
        have B3 := hide (below_trans BJ.out hb)
        clear hb
        go_wp2_with fail
        go_loop [12, 57] (fun t i => ∃ j' : Nat, j' ≤ L.length ∧ i = .int .i64 j' ∧ t = .bool (decide (q < j'))) (fun _ i => L.length - (intOf i).toNat)
        case atStart => exact ⟨0, by omega, rfl, rfl⟩
        case round =>
          obtain ⟨j', hj', rfl, rfl⟩ := hrel
          by_cases hlt2 : j' < L.length
          · obtain ⟨gx, ox, rfl, hg, c0⟩ := W3.out.at j' (by simpa using hlt2)
            rw [ks_at L j' hlt2] at c0
            rcases Nat.lt_trichotomy q j' with hqj | hqj | hqj
            · rw [decide_eq_true hqj]
              have HQ := hide (show q < j' + 1 by omega)
              clear hqj
              go_wp2_with fail
              go_round
              case rel => exact ⟨j' + 1, by omega, by go_num, by rw [decide_eq_true HQ.out]⟩
              case measure => simp [intOf]; omega
            · subst hqj
              rw [HAT.out] at c0
              rw [decide_eq_false (Nat.lt_irrefl q)]
              go_wp2_with fail
              go_round
              case rel => exact ⟨q + 1, by omega, by go_num, by rw [decide_eq_true (Nat.lt_succ_self q)]⟩
              case measure => simp [intOf]; omega
            · have hne := HNO.out j' hqj
              generalize (L.getD j' ent0).k = z at *
              have hnb : (z == (y : Int)) = false := by simpa using hne
              rw [decide_eq_false (show ¬ q < j' by omega)]
              have HQ := hide (show ¬ q < j' + 1 by omega)
              clear hne hqj
              go_wp2_with fail
              go_round
              case rel => exact ⟨j' + 1, by omega, by go_num, by rw [decide_eq_false HQ.out]⟩
              case measure => simp [intOf]; omega
          · obtain rfl : j' = L.length := by omega
            rw [decide_eq_true hq]
            clear HPUT HNO HAT KJ WJ BJ
            go_wp2_with fail
            refine (list24_any L (by omega) p _ _ v _ K3.out).mono ?_
            rintro e w6 ⟨ga, gc, rfl, ho, hb⟩
            have K6 := hide (K3.out.below hb)
            have W6 := hide (W3.out.turns (Ts := []) (Turns.of_below hb) (by simp))
            have B6 := hide (below_trans B3.out hb)
            have O6 := hide ho
            clear ho hb K3 W3 B3
            go_wp2_with fail
            go_loopw [106] (fun i W => ∃ (i' : Nat) (B7 : Nat), i' ≤ L.length ∧ i = .int .i64 i' ∧ KeysAt W p w.heap.size (k + 1) L v ∧ WantAt W w.heap.size wa wc (L.map Ent.k) ∧ W.ownsRow B7 37 3 (.slice ga L.length gc) L.length (L.flatMap entC) ∧ Below w.heap.size w W) (fun i _ => L.length - (intOf i).toNat)
            case atStart => exact ⟨0, _, by omega, rfl, K6.out, W6.out, O6.out, B6.out⟩
            case round =>
              obtain ⟨i, B7, hi, rfl, hK, hW, hO, hB⟩ := hrel
              have K7 := hide hK
              have W7 := hide hW
              have O7 := hide hO
              have B8 := hide hB
              clear hK hW hO hB K6 W6 O6 B6
              by_cases hlt3 : i < L.length
              · obtain ⟨g7, rfl, _, c0, _, _⟩ := ents_at O7.out i hlt3
                obtain ⟨gw, ow, hwa, _, c1⟩ := W7.out.at i (by simpa using hlt3)
                rw [ks_at L i hlt3] at c1
                obtain rfl := hwa
                generalize (L.getD i ent0).k = z at *
                go_wp2_with fail
                go_quiet (fail)
                go_wp2_with fail
                go_roundw
                case rel => exact ⟨i + 1, B7, by omega, by go_num, K7.out.drewN _, W7.out.drewN _, O7.out, below24N B8.out _⟩
                case measure => simp [intOf]; omega
              · obtain rfl : i = L.length := by omega
                go_wp2_with fail
                go_roundw
                case rel => exact ⟨j + 1, L, v, wa, wc, by omega, by go_num, rfl, by omega, K7.out, W7.out, B8.out⟩
                case measure => simp [intOf]; omega
    · obtain rfl : j = n := by omega
      go_wp2_with fail
      go_ret
      exact ⟨rfl, BJ.out⟩

theorem open_u8s {H : Type} {enc : TypeId × Value → H} {w : World} {base : Nat} {sp : Nat → Bool} {held : Bool} {r : Reach} {b0 : Nat} {v : Value} {d : DataW H} {ps : List MemPlace}
    (hv : Value.okWide Try.prog w r b0 43 v) (h : DataW.Trod enc Try.prog w base sp held 43 v d ps) : ∃ zs : List Int, NumsAt w .u8 v zs ∧ (∀ z ∈ zs, 0 ≤ z ∧ z ≤ 255) := by
  obtain ⟨zs, h1, h2, _⟩ := open_nums_slice Try.underlying43 Try.underlying5 (by kernel_rfl) hv h
  exact ⟨zs, h1, fun z hz => wf_u8 (h2 z hz)⟩
theorem keysOrder_walk (v : Value) (w : World) (hv : ∃ zs : List Int, NumsAt w .u8 v zs ∧ (∀ z ∈ zs, 0 ≤ z ∧ z ≤ 255)) (l : Int) (l0 : 0 ≤ l) (l1 : l ≤ 255) :
    Calls Try.prog 5 #[v, .int .u8 l] w fun e w' => e = .returned (.bool true) ∧ Below w.heap.size w w' := by
  obtain ⟨n, rfl⟩ : ∃ n : Nat, (n : Int) = l := ⟨l.toNat, by omega⟩
  obtain ⟨zs, h, hz⟩ := hv
  have hxs : ∀ x ∈ zs.map Int.toNat, x < 256 := by
    intro x hx
    obtain ⟨z, h1, rfl⟩ := List.mem_map.1 hx
    have := hz z h1
    omega
  rcases h with ⟨rfl, rfl⟩ | ⟨b, off, cap, rfl, hl, hm, h0, hc⟩ | ⟨a, cap, rfl, rfl⟩
  · exact order24 none 0 [] (by simp) (by simp) (by simp) n (by omega) w (fun i hi => by simp at hi)
  · have h := order24 (some ⟨b, off, none⟩) cap (zs.map Int.toNat) hxs (by simpa using hl) (by unfold maxLen at hm; simp; omega) n (by omega) w (fun i hi => by
      have hi2 : i < zs.length := by simpa using hi
      have hcell := hc i hi2
      refine ⟨b, off, rfl, World.block_lt_of_cell? w _ hcell, ?_⟩
      have hzi := hz _ (List.getElem_mem hi2)
      have e : (((zs.map Int.toNat).getD i 0 : Nat) : Int) = zs.getD i 0 := by
        simp only [List.getD, List.getElem?_map, List.getElem?_eq_getElem hi2]
        show ((zs[i].toNat : Nat) : Int) = zs[i]
        omega
      rw [e]
      exact hcell)
    rw [List.length_map] at h
    exact h
  · exact order24 (some a) cap [] (by simp) (by simp) (by simp) n (by omega) w (fun i hi => by simp at hi)

set_option maxRecDepth 100000 in
theorem keysOrder_lifted (os : Os) (started : os.Started) (H : Type) (enc : TypeId × Value → H) :
    ReturnsInHanded {} Try.checked os 5 .any (Rows.keysOrderSpec.pre6 enc Try.prog Try.f5 Rows.keysOrderRow.domain false) (Rows.keysOrderSpec.post enc Try.prog Try.f5 false true false false) := by
  refine returnsInHanded_of_change (C := Try.checked) own started (by kernel_rfl) Try.func5
    (ChangeSpec.witness6 (enc := enc) (C := Try.checked) false ⟨#[], #[.slice none 0 0, .int .u8 0], []⟩ 8 (by kernel_rfl) (by kernel_rfl) (by kernel_rfl) (by kernel_rfl)) ?_
  intro W base args ds gs before hval0 hW _ _
  have hval : ∀ (j : Nat) t v, Try.f5.params[j]? = some t → args[j]? = some v → Value.okWide Try.prog W .any base t v := hval0
  have hW' := hW
  obtain ⟨p, q, hA0, hV, rfl, hfz, hnd⟩ := hW
  have hA : DataW.TrodAll enc Try.prog W 0 (fun _ => true) true Try.f5.params.toList args.toList ds p := hA0
  rw [Try.params5] at hA hval
  obtain ⟨v0, vs0, d0, ds0, p0, q0, hargs, rfl, rfl, h0, r0⟩ := trodAll_cons hA
  obtain ⟨v1, vs1, d1, ds1, p1, q1, rfl, rfl, rfl, h1, r1⟩ := trodAll_cons r0
  obtain ⟨rfl, rfl, rfl⟩ := trodAll_nil r1
  obtain rfl : args = #[v0, v1] := by cases args; simp_all
  obtain ⟨rfl, rfl⟩ := trodVars_none hV
  have z0 := open_u8s (hval 0 43 v0 rfl rfl) h0
  obtain ⟨limit, rfl, rfl, rfl, w1⟩ := open_int Try.underlying5 (hval 1 5 v1 rfl rfl) h1
  have z1 := wf_u8 w1
  clear hA0 hval0
  refine (keysOrder_walk v0 W z0 limit z1.1 z1.2).mono fun e W' ⟨he, hb⟩ => ?_
  subst he
  exact ⟨_, rfl, post_law laidOut (of_decide_eq_true (by kernel_rfl)) rfl rfl Try.underlying4 hW' ⟨rfl, rfl, rfl⟩ hb⟩

/-- THE STATEMENT -/
theorem keysOrder_holds : Rows.KeysOrderSaid :=
  OpenClaim.holds_of_wide 5 Try.f5 rfl rfl rfl rfl rfl rfl rfl ⟨rfl, rfl, rfl, rfl, rfl⟩ rfl rfl rfl rfl rfl (by kernel_rfl) Try.func5 (by kernel_rfl)
    (of_decide_eq_true (by kernel_rfl)) (by unfold Func.isWrapper; first | (rw [if_pos (by decide +kernel)]; kernel_rfl) | (rw [if_neg (by decide +kernel)]; exact ⟨rfl, rfl⟩))
    (fun os started H enc _ => keysOrder_lifted os started H enc)

end Go.Proofs.Ytmomjefbifoliaa
