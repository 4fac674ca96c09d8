/-
  Layer 24's laws, walked and closed: KeysPlay.
-/
import Derived.Test.YtmomjefbifoliaaKeys9
namespace Go.Proofs.Ytmomjefbifoliaa
set_option linter.unusedSimpArgs false
set_option linter.unusedVariables false
open Go.RowKit Go.WideShapes Go.ChangeShapes Go.ChangeAt Go.Deep

/-- what New tells of a limit -/
def NewIs (n : Int) (k e : Value) : Prop := (1 ≤ n ∧ n ≤ 64 ∧ e = .int .i64 0 ∧ ∃ p, k = .pointer (some ⟨p, 0, none⟩)) ∨ ((n < 1 ∨ 64 < n) ∧ e = .int .i64 2 ∧ k = .pointer none)
def cutE (x : Ent) : Ent := ⟨x.k, x.b.extract 0 (min x.b.size 300), x.n⟩
theorem EntriesIn.below {w w' : World} {a : Option Addr} {L : List Ent} (h : EntriesIn w a L) (hb : Below w.heap.size w w') : EntriesIn w' a L := fun i hi => by
  obtain ⟨b, off, ha, hbl, c0, c1, c2⟩ := h i hi
  exact ⟨b, off, ha, Nat.lt_of_lt_of_le hbl hb.size, cell_keep c0 hbl hb, cell_keep c1 hbl hb, cell_keep c2 hbl hb⟩
/-- the list that is asked -/
def AskIs (m5 : Nat) (Q : List Ent) (w w8 : World) (s z i : Value) (W : World) : Prop := ∃ (B1 : Nat) (a7 : Option Addr) (c7 : Nat), s = .slice a7 Q.length c7 ∧ z = .int .i64 (Q.length : Int) ∧ i = .int .i64 0 ∧ W.ownsRow B1 31 3 (.slice a7 Q.length c7) Q.length (Q.flatMap entC) ∧ KeepsT [31] w8 W ∧ Below w.heap.size w W
theorem ents_cells (A : List Ent) (m qb qo : Nat) (hm : m ≤ A.length) (W : World) (h : EntriesIn W (some ⟨qb, qo, none⟩) A) : ∀ j u, ((A.take m).flatMap entC)[j]? = some u → W.cell? ((⟨qb, qo, none⟩ : Addr).add j) = some u := by
  intro j u hu
  have hml : (A.take m).length = m := by rw [List.length_take]; omega
  have hj : j < m * 3 := by
    have h1 := List.getElem?_eq_some_iff.1 hu
    obtain ⟨h1, -⟩ := h1
    rw [entsC_length, hml] at h1
    exact h1
  have hi : j / 3 < m := by omega
  have hf := flat_at entC 3 entC_length ent0 (A.take m) (j / 3) (j % 3) (by omega) (by omega)
  have hg : (A.take m).getD (j / 3) ent0 = A.getD (j / 3) ent0 := by simp [List.getD, List.getElem?_take, hi]
  rw [show j / 3 * 3 + j % 3 = j by omega, hu, hg] at hf
  obtain ⟨b, off, ha, -, c0, c1, c2⟩ := h (j / 3) (by omega)
  simp only [Option.some.injEq, Addr.mk.injEq, and_true] at ha
  obtain ⟨rfl, rfl⟩ := ha
  have hr : j % 3 = 0 ∨ j % 3 = 1 ∨ j % 3 = 2 := by omega
  rw [show ((⟨qb, qo, none⟩ : Addr).add j) = ⟨qb, qo + j, none⟩ by simp [Addr.add]]
  rcases hr with e | e | e
  · rw [e] at hf
    rw [show qo + j = qo + j / 3 * 3 by omega, c0, hf]; rfl
  · rw [e] at hf
    rw [show qo + j = qo + j / 3 * 3 + 1 by omega, c1, hf]; rfl
  · rw [e] at hf
    rw [show qo + j = qo + j / 3 * 3 + 2 by omega, c2, hf]; rfl
theorem Turns.owns {Ts : List TypeId} {w w' : World} (h : Turns Ts w w') {B e m n : Nat} {v : Value} {xs : List Value} (ho : w.ownsRow B e m v n xs) (ht : e ∉ Ts) : w'.ownsRow B e m v n xs := by
  refine ⟨ho.1, ?_⟩
  rcases ho.2 with h3 | ⟨g, cap', cur, hv, hg, hh, h4⟩
  · exact .inl h3
  · exact .inr ⟨g, cap', cur, hv, hg, h _ _ _ _ hh ht, h4⟩
theorem getEnt_mem (L : List Ent) (k : Nat) (h : k < L.length) : L.getD k ent0 ∈ L := by simp [List.getD, h]

set_option maxRecDepth 100000 in
set_option maxHeartbeats 1000000 in
theorem play24 (limit : Int) (l0 : -9223372036854775808 ≤ limit) (l1 : limit ≤ 9223372036854775807) (a : Option Addr) (cap : Nat) (L0 : List Ent) (hcap : L0.length ≤ cap) (hx63 : L0.length ≤ 9223372036854775807) (hok : ∀ x ∈ L0, EntryOk x) (qa : Option Addr) (qc : Nat) (A0 : List Ent) (hqcap : A0.length ≤ qc) (hq63 : A0.length ≤ 9223372036854775807) (hqok : ∀ x ∈ A0, EntryOk x) (w : World) (hin : EntriesIn w a L0) (hqin : EntriesIn w qa A0) :
    Calls Try.prog 3 #[.int .i64 limit, .slice a L0.length cap, .slice qa A0.length qc] w fun e w' => e = .returned (.bool true) ∧ Below w.heap.size w w' := by
  have HIN := hide hin
  have HQI := hide hqin
  have HOK := hide hok
  have HQK := hide hqok
  have HL0 := hide l0
  have HL1 := hide l1
  have HLX := hide hcap
  clear hin hqin hok hqok
  go_enter Try.func3, Try.ntmps3
  go_upto_region 1 with (fail)
  go_cut [7, 8] from 27 to 32 (fun k0 e0 W => NewIs limit k0 e0 ∧ Below w.heap.size w W)
  case first =>
    by_cases hv : 1 ≤ limit ∧ limit ≤ 64
    · obtain ⟨n, rfl⟩ : ∃ n : Nat, (n : Int) = limit := ⟨limit.toNat, by omega⟩
      go_wp2_with fail
      refine (new_ok n (by omega) (by omega) _).mono ?_
      rintro e w1 ⟨p, rfl, -, hb⟩
      have HB := hide hb
      clear hb
      go_wp2_with fail
      go_meet
      exact ⟨.inl ⟨hv.1, hv.2, rfl, p, rfl⟩, HB.out⟩
    · have hv2 : limit < 1 ∨ 64 < limit := by omega
      have HV := hide hv2
      clear hv hv2
      go_wp2_with fail
      refine (new_no limit HV.out _).mono ?_
      rintro e w1 ⟨rfl, rfl⟩
      go_wp2_with fail
      go_meet
      exact ⟨.inr ⟨HV.out, rfl, rfl⟩, Below.refl _ _⟩
  case rest =>
    obtain ⟨hnew, hb⟩ := hcut
    have BA := hide hb
    have HNW := hide hnew
    clear hb hnew
    go_upto_region 2 with (fail)
    go_cut [52] from 32 to 53 (fun s W => s = .bool false ∧ wc = W)
    case first =>
      rcases HNW.out with ⟨g1, g2, rfl, p, rfl⟩ | ⟨g1, rfl, rfl⟩
      · go_wp2_with fail
        go_meet
        exact ⟨rfl, rfl⟩
      · rcases g1 with g1 | g1
        · have g3 : ¬ 1 ≤ limit := by omega
          go_wp2_with fail
          go_meet
          exact ⟨rfl, rfl⟩
        · have g3 : 1 ≤ limit := by omega
          have g4 : ¬ limit ≤ 64 := by omega
          go_wp2_with fail
          go_meet
          exact ⟨rfl, rfl⟩
    case rest =>
      obtain ⟨rfl, rfl⟩ := hcut
      clear HNW
      obtain ⟨lm, hlm⟩ : ∃ lm : Nat, (lm : Int) = max 0 limit := ⟨(max 0 limit).toNat, by omega⟩
      obtain ⟨kk, hkk⟩ : ∃ kk, lm % 9 = kk := ⟨_, rfl⟩
      have hmx : (if 0 < limit then limit else 0) = (lm : Int) := by split <;> omega
      have hmx2 : max 0 limit = (lm : Int) := hlm.symm
      have hkki : (lm : Int) % 9 = (kk : Int) := by omega
      have hk9 : kk < 9 := by omega
      obtain ⟨n, hn⟩ : ∃ n : Nat, min L0.length 40 = n := ⟨_, rfl⟩
      have hn1 : n ≤ L0.length := by omega
      have hn2 : n ≤ 40 := by omega
      have hmF : (if (40 : Int) < (L0.length : Int) then (40 : Int) else (L0.length : Int)) = (n : Int) := by split <;> omega
      have hmI : min (L0.length : Int) 40 = (n : Int) := by omega
      have hcI : (n : Int) ≤ (cap : Int) := by omega
      have HNEW := hide (show Calls Try.prog 6 #[.int .i64 (1 + (kk : Int))] wc fun e w' => ∃ p, e = .returned (.tuple #[.pointer (some ⟨p, 0, none⟩), .int .i64 0]) ∧ KeysAt w' p wc.heap.size (kk + 1) [] (.slice none 0 0) ∧ Below wc.heap.size wc w' from by
        have h := new_ok (kk + 1) (by omega) (by omega) wc
        rw [show ((kk + 1 : Nat) : Int) = 1 + (kk : Int) by omega] at h
        exact h)
      have HWK := hide (fun W => wakes24 W)
      clear hlm hkk hn
      go_wp2_with fail
      refine HNEW.out.mono ?_
      rintro e w1 ⟨p, rfl, hk, hb⟩
      have K1 := hide (show KeysAt w1 p w.heap.size (kk + 1) [] (.slice none 0 0) from ⟨hk.head, owns_base hk.owns BA.out.size, Nat.le_trans BA.out.size hk.base⟩)
      have B1 := hide (below_trans BA.out hb)
      clear hk hb HNEW BA
      go_wp2_with fail
      refine (HWK.out _).mono ?_
      rintro e w2 ⟨rfl, hb⟩
      have K2 := hide (K1.out.below hb)
      have B2 := hide (below_trans B1.out hb)
      clear hb K1 B1 HWK
      go_wp2_with fail
      go_loopw [12, 78] (fun m i W => ∃ (j : Nat) (L : List Ent) (v : Value) (ma : Option Addr) (mc : Nat), j ≤ n ∧ i = .int .i64 j ∧ m = .slice ma L.length mc ∧ L.length ≤ kk + 1 ∧ (∀ x ∈ L, GoodE x) ∧ KeysAt W p w.heap.size (kk + 1) L v ∧ W.ownsRow w.heap.size 35 3 (.slice ma L.length mc) L.length (L.flatMap entC) ∧ Below w.heap.size w W) (fun _ i _ => n - (intOf i).toNat)
      case atStart => exact ⟨0, [], _, none, 0, by omega, rfl, rfl, by simp, by simp, K2.out, World.ownsRow_nil _ _ _ _, B2.out⟩
      case round =>
        obtain ⟨j, L, v, ma, mc, hj, rfl, rfl, hlk, hgd, hk, ho, hb⟩ := hrel
        have KJ := hide hk
        have OJ := hide ho
        have BJ := hide hb
        have GJ := hide hgd
        clear hk ho hb hgd K2 B2
        by_cases hlt : j < n
        · obtain ⟨b, off, rfl, hbl, c0, c1, c2⟩ := (HIN.out.below BJ.out) j (by omega)
          have hx := HOK.out _ (getEnt_mem L0 j (by omega))
          generalize L0.getD j ent0 = x at *
          obtain ⟨xk, xs, xn⟩ := x
          obtain ⟨⟨x0, x1⟩, x2, x3, x4⟩ := hx
          dsimp only at *
          obtain ⟨mb, hmb⟩ : ∃ mb : Nat, min xs.size 300 = mb := ⟨_, rfl⟩
          have hmb1 : mb ≤ xs.size := by omega
          have hmb2 : mb ≤ 300 := by omega
          have hmbF : (if (300 : Int) < (xs.size : Int) then (300 : Int) else (xs.size : Int)) = (mb : Int) := by split <;> omega
          have hmbI : min (xs.size : Int) 300 = (mb : Int) := by omega
          clear hmb
          have HRP := hide (fun (x : Ent) W hW ho => rput24 L (by omega) (kk + 1) (by omega) hlk (by omega) x ma mc w.heap.size W hW ho)
          rw [show ((kk + 1 : Nat) : Int) = 1 + (kk : Int) by omega] at HRP
          have HPP := hide (fun (x : Ent) W hW hk => put24 L (by omega) (kk + 1) (by omega) hlk (by omega) x p w.heap.size v W hW hk)
          have HX0 := hide (And.intro x0 x1)
          clear x0 x1 x2 x3 x4
          go_wp2_with fail
          generalize xs.extract 0 mb = xt at *
          clear hmbF hmbI hmb1 hmb2 c0 c1 c2
          obtain ⟨ob, hob⟩ : ∃ ob, ob = (Obj.cells #[.int .u64 xk, .string xt, .int .i64 xn] 31) := ⟨_, rfl⟩
          rw [← hob]
          have XB3 := hide (heap_new wr ob)
          have K3 := hide (KJ.out.below ((Below.refl wr.heap.size wr).alloc (Nat.le_refl _) ob))
          have O3 := hide (OJ.out.alloc ob)
          have B3 := hide (BJ.out.alloc BJ.out.size ob)
          generalize wr.alloc ob = w3 at *
          generalize wr.heap.size = xb at *
          rw [hob] at XB3
          clear hob
          refine (copy24_any L (by omega) p _ _ v _ K3.out).mono ?_
          rintro e w4 ⟨pc, vc, rfl, hkc, hb⟩
          have KC4 := hide hkc
          have K4 := hide (K3.out.below hb)
          have O4 := hide (owns_below O3.out hb)
          have B4 := hide (below_trans B3.out hb)
          have XB4 := hide ((hb.block _ (heap_lt XB3.out)).trans XB3.out)
          have PC := hide (show p ≠ pc ∧ (∀ g, v.ownBlock = some g → g ≠ pc) ∧ ∀ g, vc.ownBlock = some g → g ≠ p ∧ ∀ g', v.ownBlock = some g' → g ≠ g' from by
            have h1 := K3.out.lt
            have h2 := hkc.base
            refine ⟨by omega, fun g hg => ?_, fun g hg => ⟨?_, fun g' hg' => ?_⟩⟩
            · have := (K3.out.owns.lt g hg).2; omega
            · have := (hkc.owns.lt g hg).1; omega
            · have h3 := (hkc.owns.lt g hg).1
              have h4 := (K3.out.owns.lt g' hg').2
              omega)
          have d0 := cell_of_block XB4.out 0
          have d1 := cell_of_block XB4.out 1
          have d2 := cell_of_block XB4.out 2
          clear hkc hb XB3 K3 O3 B3
          go_wp2_with fail
          refine (HRP.out ⟨xk, xt, xn⟩ _ B4.out.size O4.out).mono ?_
          rintro e w5 ⟨na, nc, rfl, ho, hb⟩
          have KC5 := hide (KC4.out.below hb)
          have K5 := hide (K4.out.below hb)
          have N5 := hide ho
          have O5 := hide (owns_below O4.out hb)
          have B5 := hide (below_trans B4.out hb)
          have XB5 := hide ((hb.block _ (heap_lt XB4.out)).trans XB4.out)
          have d0 := cell_of_block XB5.out 0
          have d1 := cell_of_block XB5.out 1
          have d2 := cell_of_block XB5.out 2
          clear ho hb KC4 K4 O4 B4 XB4
          go_wp2_with fail
          have HL' := hide (putA_length L (kk + 1) ⟨xk, xt, xn⟩ hlk (by omega))
          have HG' := hide (putA_good L (kk + 1) ⟨xk, xt, xn⟩ GJ.out HX0.out)
          refine (HPP.out ⟨xk, xt, xn⟩ _ B5.out.size K5.out).mono ?_
          rintro e w6 ⟨v', rfl, hk, ho, hv⟩
          generalize putA L (kk + 1) ⟨xk, xt, xn⟩ = L' at *
          generalize putE L ⟨xk, xt, xn⟩ = pe at *
          have KC6 := hide (KC5.out.onlyL ho (by
              rw [List.mem_cons, not_or]
              refine ⟨fun h => PC.out.1 h.symm, fun h => ?_⟩
              cases hq : v.ownBlock with
              | none => rw [hq] at h; simp at h
              | some g => rw [hq] at h; simp at h; exact PC.out.2.1 g hq h.symm) (fun g hg => by
              rw [List.mem_cons, not_or]
              refine ⟨(PC.out.2.2 g hg).1, fun h => ?_⟩
              cases hq : v.ownBlock with
              | none => rw [hq] at h; simp at h
              | some g' => rw [hq] at h; simp at h; exact (PC.out.2.2 g hg).2 g' hq h))
          have hT := put_turns K5.out ho
          have K6 := hide hk
          have N6 := hide (hT.owns N5.out (by decide))
          have O6 := hide (hT.owns O5.out (by decide))
          have B6 := hide (B5.out.trans (put_below K5.out ho B5.out.size))
          have XB6 := hide (hT _ _ _ _ XB5.out (by decide))
          clear hk ho hv hT KC5 K5 N5 O5 B5 XB5 d0 d1 d2 HRP HPP PC
          go_wp2_with fail
          refine (same24 L (by omega) pc _ _ vc ma mc _ w6 KC6.out O6.out).mono ?_
          rintro e w7 ⟨rfl, hb⟩
          have K7 := hide (K6.out.below hb)
          have N7 := hide (owns_below N6.out hb)
          have B7 := hide (below_trans B6.out hb)
          have XB7 := hide ((hb.block _ (heap_lt XB6.out)).trans XB6.out)
          clear hb KC6 K6 N6 O6 B6 XB6
          go_wp2_with fail
          refine (same24 L' (by have := HL'.out; omega) p _ _ v' na nc _ w7 K7.out N7.out).mono ?_
          rintro e w8 ⟨rfl, hb⟩
          have K8 := hide (K7.out.below hb)
          have N8 := hide (owns_below N7.out hb)
          have B8 := hide (below_trans B7.out hb)
          have XB8 := hide ((hb.block _ (heap_lt XB7.out)).trans XB7.out)
          clear hb K7 N7 B7 XB7 KJ OJ BJ GJ
          obtain ⟨m5, hm5⟩ : ∃ m5 : Nat, min A0.length 5 = m5 := ⟨_, rfl⟩
          have hq1 : m5 ≤ A0.length := by omega
          have hq2 : m5 ≤ 5 := by omega
          have hqF : (if (5 : Int) < (A0.length : Int) then (5 : Int) else (A0.length : Int)) = (m5 : Int) := by split <;> omega
          have hqI : min (A0.length : Int) 5 = (m5 : Int) := by omega
          have hqc : (m5 : Int) ≤ (qc : Int) := by omega
          clear hm5
          go_upto_region 18 with (fail)
          go_cut [124, 125, 126] from 117 to 127 (fun s z i W => AskIs m5 (Ent.mk xk xt xn :: A0.take m5) w w8 s z i W)
          case first =>
            have XB0 := hide (show w8.drew.heap[xb]? = _ from XB8.out)
            have KT0 := hide (show KeepsT [31] w8 w8.drew from KeepsT.refl _ _)
            have BL0 := hide B8.out.drew
            have QI0 := hide (show EntriesIn w8.drew qa A0 from HQI.out.below B8.out.drew)
            obtain ⟨AQ, hAQ⟩ : ∃ AQ, AQ = A0.take m5 := ⟨_, rfl⟩
            obtain ⟨i0, hi, hz0, hz1, hz2⟩ := info_parts (show (Try.prog.info? 31).map (fun i => (i.zero, i.size, i.bytes)) = some (some (.agg #[.int .u64 0, .string ⟨#[]⟩, .int .i64 0]), 3, 32) by kernel_rfl)
            have HI := hide hi
            have HZ0 := hide hz0
            have HZ1' := hide hz1
            have HZ2 := hide hz2
            have HAQ3 := hide (show (AQ.flatMap entC).length = m5 * 3 by rw [hAQ, entsC_length, List.length_take]; omega)
            clear hi hz0 hz1 hz2
            by_cases h5 : m5 = 0
            · subst h5
              have hAQ0 : AQ = [] := by rw [hAQ]; rfl
              subst hAQ0
              clear hAQ
              cases qa with
              | none =>
                refine wp_region_held_drew (S := (fun W => W.cell? ⟨xb, 0, none⟩ = some (.int .u64 xk) ∧ W.cell? ⟨xb, 1, none⟩ = some (.string xt) ∧ W.cell? ⟨xb, 2, none⟩ = some (.int .i64 xn))) (by kernel_rfl) (⟨cell_of_block XB0.out 0, cell_of_block XB0.out 1, cell_of_block XB0.out 2⟩) (fun hHeld => ?_)
                generalize w8.drew = v0 at *
                refine wpAnyH_take (i := 0) (oi := { dst := some 117, op := Op.load 31 (Operand.tmp 14), type := 31, pos := "law.go:62", after := #[], guard := none }) (v := ?_) rfl (by kernel_rfl) (by kernel_rfl) (by kernel_rfl) (fun _ _ _ h => h) (Or.inl ⟨by kernel_rfl, ?_⟩) hHeld ?_
                rotate_left
                · (intro w hSw; (try dsimp only at hSw); go_simp); try with_reducible rfl
                try simp only [Act.put, List.setIfInBounds_toArray, List.set_cons_zero, List.set_cons_succ]
                refine wpAnyH_take (i := 2) (oi := { dst := some 119, op := Op.move (Operand.tmp 2), type := 22, pos := "law.go:62", after := #[], guard := none }) (v := ?_) rfl (by kernel_rfl) (by kernel_rfl) (by kernel_rfl) (fun _ _ _ h => h) (Or.inl ⟨by kernel_rfl, ?_⟩) hHeld ?_
                rotate_left
                · (intro w hSw; (try dsimp only at hSw); go_simp); try with_reducible rfl
                try simp only [Act.put, List.setIfInBounds_toArray, List.set_cons_zero, List.set_cons_succ]
                refine wpAnyH_take (i := 3) (oi := { dst := some 120, op := Op.move (Operand.tmp 2), type := 22, pos := "law.go:62", after := #[], guard := none }) (v := ?_) rfl (by kernel_rfl) (by kernel_rfl) (by kernel_rfl) (fun _ _ _ h => h) (Or.inl ⟨by kernel_rfl, ?_⟩) hHeld ?_
                rotate_left
                · (intro w hSw; (try dsimp only at hSw); go_simp); try with_reducible rfl
                try simp only [Act.put, List.setIfInBounds_toArray, List.set_cons_zero, List.set_cons_succ]
                refine wpAnyH_take (i := 4) (oi := { dst := some 121, op := Op.call { callee := Callee.builtin Builtin.len, args := #[Operand.tmp 120], argTypes := #[22] }, type := 3, pos := "law.go:62", after := #[{ on := 3, ground := Ground.data }], guard := none }) (v := ?_) rfl (by kernel_rfl) (by kernel_rfl) (by kernel_rfl) (fun _ _ _ h => h) (Or.inl ⟨by kernel_rfl, ?_⟩) hHeld ?_
                rotate_left
                · (intro w hSw; (try dsimp only at hSw); go_simp); try with_reducible rfl
                try simp only [Act.put, List.setIfInBounds_toArray, List.set_cons_zero, List.set_cons_succ]
                refine wpAnyH_take (i := 5) (oi := { dst := some 122, op := Op.call { callee := Callee.builtin Builtin.min, args := #[Operand.tmp 121, Operand.const (Value.int IntKind.i64 5)], argTypes := #[3, 3] }, type := 3, pos := "law.go:62", after := #[{ on := 4, ground := Ground.data }], guard := none }) (v := ?_) rfl (by kernel_rfl) (by kernel_rfl) (by kernel_rfl) (fun _ _ _ h => h) (Or.inl ⟨by kernel_rfl, ?_⟩) hHeld ?_
                rotate_left
                · (intro w hSw; (try dsimp only at hSw); go_simp); try with_reducible rfl
                try simp only [Act.put, List.setIfInBounds_toArray, List.set_cons_zero, List.set_cons_succ]
                refine wpAnyH_take (i := 6) (oi := { dst := some 123, op := Op.slice 22 (Operand.tmp 119) none (some (Operand.tmp 122)) none, type := 22, pos := "law.go:62", after := #[{ on := 2, ground := Ground.data }, { on := 5, ground := Ground.data }], guard := none }) (v := ?_) rfl (by kernel_rfl) (by kernel_rfl) (by kernel_rfl) (fun _ _ _ h => h) (Or.inl ⟨by kernel_rfl, ?_⟩) hHeld ?_
                rotate_left
                · (intro w hSw; (try dsimp only at hSw); go_simp); try with_reducible rfl
                try simp only [Act.put, List.setIfInBounds_toArray, List.set_cons_zero, List.set_cons_succ]
                refine wpAnyH_take (i := 9) (oi := { dst := some 126, op := Op.move (Operand.const (Value.int IntKind.i64 0)), type := 3, pos := "law.go:62", after := #[], guard := none }) (v := ?_) rfl (by kernel_rfl) (by kernel_rfl) (by kernel_rfl) (fun _ _ _ h => h) (Or.inl ⟨by kernel_rfl, ?_⟩) hHeld ?_
                rotate_left
                · (intro w hSw; (try dsimp only at hSw); go_simp); try with_reducible rfl
                try simp only [Act.put, List.setIfInBounds_toArray, List.set_cons_zero, List.set_cons_succ]
                refine wpAnyH_ready (rs := [1]) (by kernel_rfl) (by simp) (AllReadyH.cons (o := { dst := some 118, op := Op.buildSlice 22 1 #[(0, Operand.tmp 117)], type := 22, pos := "law.go:62", after := #[{ on := 0, ground := Ground.data }], guard := none }) rfl (fun K hK => ?_) AllReadyH.nil)
                have hOld := hide hHeld
                clear hHeld
                go_simp
                have XB1 := hide ((heap_old v0 (.cells #[.int .u64 xk, .string xt, .int .i64 xn] 31) _ (heap_lt XB0.out)).trans XB0.out)
                have KT1 := hide (KT0.out.trans (KeepsT.of_below (Ts := [31]) ((Below.refl v0.heap.size v0).alloc (Nat.le_refl _) (.cells #[.int .u64 xk, .string xt, .int .i64 xn] 31))))
                have BL1 := hide (BL0.out.alloc BL0.out.size (.cells #[.int .u64 xk, .string xt, .int .i64 xn] 31))
                have OW1 := hide (show (v0.alloc (.cells #[.int .u64 xk, .string xt, .int .i64 xn] 31)).ownsRow v0.heap.size 31 3 (.slice (some ⟨v0.heap.size, 0, none⟩) 1 1) 1 ([Ent.mk xk xt xn].flatMap entC) from ⟨rfl, .inr ⟨v0.heap.size, 1, _, rfl, Nat.le_refl _, heap_new v0 _, Nat.le_refl _, by unfold maxLen; omega, rfl, rfl⟩⟩)
                have HZ1 := hide (show v0.heap.size ≤ (v0.alloc (.cells #[.int .u64 xk, .string xt, .int .i64 xn] 31)).heap.size by simp)
                have QI1 := hide (QI0.out.below ((Below.refl v0.heap.size v0).alloc (Nat.le_refl _) (.cells #[.int .u64 xk, .string xt, .int .i64 xn] 31)))
                have HB1B := hide (show w.heap.size ≤ v0.heap.size from BL0.out.size)
                have HXN := hide (show (Value.slice (some ⟨v0.heap.size, 0, none⟩) 1 1).ownBlock ≠ some xb from fun h => by
                  have h1 := heap_lt XB0.out
                  have h2 : v0.heap.size = xb := Option.some.inj h
                  omega)
                generalize v0.alloc (.cells #[.int .u64 xk, .string xt, .int .i64 xn] 31) = v1 at *
                generalize v0.heap.size = b1 at *
                (try go_wp2_with fail)
                refine hK.out _ _ (⟨cell_of_block XB1.out 0, cell_of_block XB1.out 1, cell_of_block XB1.out 2⟩) (fun hHeld => ?_)
                clear hK K hOld
                try simp only [Act.put, List.setIfInBounds_toArray, List.set_cons_zero, List.set_cons_succ]
                refine wpAnyH_ready (rs := [7]) (by kernel_rfl) (by simp) (AllReadyH.cons (o := { dst := some 124, op := Op.call { callee := Callee.builtin Builtin.append, args := #[Operand.tmp 118, Operand.tmp 123], argTypes := #[22, 22] }, type := 22, pos := "law.go:62", after := #[{ on := 1, ground := Ground.data }, { on := 6, ground := Ground.data }], guard := none }) rfl (fun K hK => ?_) AllReadyH.nil)
                have hOld := hide hHeld
                clear hHeld
                go_simp
                (try simp only [storeCells, pure, Sem.run, Result.andThen, Array.toList_empty, List.toList_toArray])
                (try go_wp2_with fail)
                refine hK.out _ _ (⟨cell_of_block XB1.out 0, cell_of_block XB1.out 1, cell_of_block XB1.out 2⟩) (fun hHeld => ?_)
                clear hK K hOld
                try simp only [Act.put, List.setIfInBounds_toArray, List.set_cons_zero, List.set_cons_succ]
                refine wpAnyH_take (i := 8) (oi := { dst := some 125, op := Op.call { callee := Callee.builtin Builtin.len, args := #[Operand.tmp 124], argTypes := #[22] }, type := 3, pos := "law.go:62", after := #[{ on := 7, ground := Ground.data }], guard := none }) (v := ?_) rfl (by kernel_rfl) (by kernel_rfl) (by kernel_rfl) (fun _ _ _ h => h) (Or.inl ⟨by kernel_rfl, ?_⟩) hHeld ?_
                rotate_left
                · (intro w hSw; (try dsimp only at hSw); go_simp); try with_reducible rfl
                try simp only [Act.put, List.setIfInBounds_toArray, List.set_cons_zero, List.set_cons_succ]
                refine wpAnyH_done (by kernel_rfl) ?_ _
                clear hHeld
                go_wp2_with fail
                go_meet
                exact ⟨b1, _, _, rfl, rfl, rfl, OW1.out, KT1.out, BL1.out⟩
              | some qa0 =>
                refine wp_region_held_drew (S := (fun W => W.cell? ⟨xb, 0, none⟩ = some (.int .u64 xk) ∧ W.cell? ⟨xb, 1, none⟩ = some (.string xt) ∧ W.cell? ⟨xb, 2, none⟩ = some (.int .i64 xn))) (by kernel_rfl) (⟨cell_of_block XB0.out 0, cell_of_block XB0.out 1, cell_of_block XB0.out 2⟩) (fun hHeld => ?_)
                generalize w8.drew = v0 at *
                refine wpAnyH_take (i := 0) (oi := { dst := some 117, op := Op.load 31 (Operand.tmp 14), type := 31, pos := "law.go:62", after := #[], guard := none }) (v := ?_) rfl (by kernel_rfl) (by kernel_rfl) (by kernel_rfl) (fun _ _ _ h => h) (Or.inl ⟨by kernel_rfl, ?_⟩) hHeld ?_
                rotate_left
                · (intro w hSw; (try dsimp only at hSw); go_simp); try with_reducible rfl
                try simp only [Act.put, List.setIfInBounds_toArray, List.set_cons_zero, List.set_cons_succ]
                refine wpAnyH_take (i := 2) (oi := { dst := some 119, op := Op.move (Operand.tmp 2), type := 22, pos := "law.go:62", after := #[], guard := none }) (v := ?_) rfl (by kernel_rfl) (by kernel_rfl) (by kernel_rfl) (fun _ _ _ h => h) (Or.inl ⟨by kernel_rfl, ?_⟩) hHeld ?_
                rotate_left
                · (intro w hSw; (try dsimp only at hSw); go_simp); try with_reducible rfl
                try simp only [Act.put, List.setIfInBounds_toArray, List.set_cons_zero, List.set_cons_succ]
                refine wpAnyH_take (i := 3) (oi := { dst := some 120, op := Op.move (Operand.tmp 2), type := 22, pos := "law.go:62", after := #[], guard := none }) (v := ?_) rfl (by kernel_rfl) (by kernel_rfl) (by kernel_rfl) (fun _ _ _ h => h) (Or.inl ⟨by kernel_rfl, ?_⟩) hHeld ?_
                rotate_left
                · (intro w hSw; (try dsimp only at hSw); go_simp); try with_reducible rfl
                try simp only [Act.put, List.setIfInBounds_toArray, List.set_cons_zero, List.set_cons_succ]
                refine wpAnyH_take (i := 4) (oi := { dst := some 121, op := Op.call { callee := Callee.builtin Builtin.len, args := #[Operand.tmp 120], argTypes := #[22] }, type := 3, pos := "law.go:62", after := #[{ on := 3, ground := Ground.data }], guard := none }) (v := ?_) rfl (by kernel_rfl) (by kernel_rfl) (by kernel_rfl) (fun _ _ _ h => h) (Or.inl ⟨by kernel_rfl, ?_⟩) hHeld ?_
                rotate_left
                · (intro w hSw; (try dsimp only at hSw); go_simp); try with_reducible rfl
                try simp only [Act.put, List.setIfInBounds_toArray, List.set_cons_zero, List.set_cons_succ]
                refine wpAnyH_take (i := 5) (oi := { dst := some 122, op := Op.call { callee := Callee.builtin Builtin.min, args := #[Operand.tmp 121, Operand.const (Value.int IntKind.i64 5)], argTypes := #[3, 3] }, type := 3, pos := "law.go:62", after := #[{ on := 4, ground := Ground.data }], guard := none }) (v := ?_) rfl (by kernel_rfl) (by kernel_rfl) (by kernel_rfl) (fun _ _ _ h => h) (Or.inl ⟨by kernel_rfl, ?_⟩) hHeld ?_
                rotate_left
                · (intro w hSw; (try dsimp only at hSw); go_simp); try with_reducible rfl
                try simp only [Act.put, List.setIfInBounds_toArray, List.set_cons_zero, List.set_cons_succ]
                refine wpAnyH_take (i := 6) (oi := { dst := some 123, op := Op.slice 22 (Operand.tmp 119) none (some (Operand.tmp 122)) none, type := 22, pos := "law.go:62", after := #[{ on := 2, ground := Ground.data }, { on := 5, ground := Ground.data }], guard := none }) (v := ?_) rfl (by kernel_rfl) (by kernel_rfl) (by kernel_rfl) (fun _ _ _ h => h) (Or.inl ⟨by kernel_rfl, ?_⟩) hHeld ?_
                rotate_left
                · (intro w hSw; (try dsimp only at hSw); go_simp); try with_reducible rfl
                try simp only [Act.put, List.setIfInBounds_toArray, List.set_cons_zero, List.set_cons_succ]
                refine wpAnyH_take (i := 9) (oi := { dst := some 126, op := Op.move (Operand.const (Value.int IntKind.i64 0)), type := 3, pos := "law.go:62", after := #[], guard := none }) (v := ?_) rfl (by kernel_rfl) (by kernel_rfl) (by kernel_rfl) (fun _ _ _ h => h) (Or.inl ⟨by kernel_rfl, ?_⟩) hHeld ?_
                rotate_left
                · (intro w hSw; (try dsimp only at hSw); go_simp); try with_reducible rfl
                try simp only [Act.put, List.setIfInBounds_toArray, List.set_cons_zero, List.set_cons_succ]
                refine wpAnyH_ready (rs := [1]) (by kernel_rfl) (by simp) (AllReadyH.cons (o := { dst := some 118, op := Op.buildSlice 22 1 #[(0, Operand.tmp 117)], type := 22, pos := "law.go:62", after := #[{ on := 0, ground := Ground.data }], guard := none }) rfl (fun K hK => ?_) AllReadyH.nil)
                have hOld := hide hHeld
                clear hHeld
                go_simp
                have XB1 := hide ((heap_old v0 (.cells #[.int .u64 xk, .string xt, .int .i64 xn] 31) _ (heap_lt XB0.out)).trans XB0.out)
                have KT1 := hide (KT0.out.trans (KeepsT.of_below (Ts := [31]) ((Below.refl v0.heap.size v0).alloc (Nat.le_refl _) (.cells #[.int .u64 xk, .string xt, .int .i64 xn] 31))))
                have BL1 := hide (BL0.out.alloc BL0.out.size (.cells #[.int .u64 xk, .string xt, .int .i64 xn] 31))
                have OW1 := hide (show (v0.alloc (.cells #[.int .u64 xk, .string xt, .int .i64 xn] 31)).ownsRow v0.heap.size 31 3 (.slice (some ⟨v0.heap.size, 0, none⟩) 1 1) 1 ([Ent.mk xk xt xn].flatMap entC) from ⟨rfl, .inr ⟨v0.heap.size, 1, _, rfl, Nat.le_refl _, heap_new v0 _, Nat.le_refl _, by unfold maxLen; omega, rfl, rfl⟩⟩)
                have HZ1 := hide (show v0.heap.size ≤ (v0.alloc (.cells #[.int .u64 xk, .string xt, .int .i64 xn] 31)).heap.size by simp)
                have QI1 := hide (QI0.out.below ((Below.refl v0.heap.size v0).alloc (Nat.le_refl _) (.cells #[.int .u64 xk, .string xt, .int .i64 xn] 31)))
                have HB1B := hide (show w.heap.size ≤ v0.heap.size from BL0.out.size)
                have HXN := hide (show (Value.slice (some ⟨v0.heap.size, 0, none⟩) 1 1).ownBlock ≠ some xb from fun h => by
                  have h1 := heap_lt XB0.out
                  have h2 : v0.heap.size = xb := Option.some.inj h
                  omega)
                generalize v0.alloc (.cells #[.int .u64 xk, .string xt, .int .i64 xn] 31) = v1 at *
                generalize v0.heap.size = b1 at *
                (try go_wp2_with fail)
                refine hK.out _ _ (⟨cell_of_block XB1.out 0, cell_of_block XB1.out 1, cell_of_block XB1.out 2⟩) (fun hHeld => ?_)
                clear hK K hOld
                try simp only [Act.put, List.setIfInBounds_toArray, List.set_cons_zero, List.set_cons_succ]
                refine wpAnyH_ready (rs := [7]) (by kernel_rfl) (by simp) (AllReadyH.cons (o := { dst := some 124, op := Op.call { callee := Callee.builtin Builtin.append, args := #[Operand.tmp 118, Operand.tmp 123], argTypes := #[22, 22] }, type := 22, pos := "law.go:62", after := #[{ on := 1, ground := Ground.data }, { on := 6, ground := Ground.data }], guard := none }) rfl (fun K hK => ?_) AllReadyH.nil)
                have hOld := hide hHeld
                clear hHeld
                go_simp
                (try simp only [storeCells, pure, Sem.run, Result.andThen, Array.toList_empty, List.toList_toArray])
                (try go_wp2_with fail)
                refine hK.out _ _ (⟨cell_of_block XB1.out 0, cell_of_block XB1.out 1, cell_of_block XB1.out 2⟩) (fun hHeld => ?_)
                clear hK K hOld
                try simp only [Act.put, List.setIfInBounds_toArray, List.set_cons_zero, List.set_cons_succ]
                refine wpAnyH_take (i := 8) (oi := { dst := some 125, op := Op.call { callee := Callee.builtin Builtin.len, args := #[Operand.tmp 124], argTypes := #[22] }, type := 3, pos := "law.go:62", after := #[{ on := 7, ground := Ground.data }], guard := none }) (v := ?_) rfl (by kernel_rfl) (by kernel_rfl) (by kernel_rfl) (fun _ _ _ h => h) (Or.inl ⟨by kernel_rfl, ?_⟩) hHeld ?_
                rotate_left
                · (intro w hSw; (try dsimp only at hSw); go_simp); try with_reducible rfl
                try simp only [Act.put, List.setIfInBounds_toArray, List.set_cons_zero, List.set_cons_succ]
                refine wpAnyH_done (by kernel_rfl) ?_ _
                clear hHeld
                go_wp2_with fail
                go_meet
                exact ⟨b1, _, _, rfl, rfl, rfl, OW1.out, KT1.out, BL1.out⟩
            · obtain ⟨qb, qo, rfl, -⟩ := QI0.out 0 (by omega)
              have HQC := hide (fun (W : World) (hW : EntriesIn W (some ⟨qb, qo, none⟩) A0) => ents_cells A0 m5 qb qo hq1 W hW)
              rw [← hAQ] at HQC
              refine wp_region_held_drew (S := (fun W => W.cell? ⟨xb, 0, none⟩ = some (.int .u64 xk) ∧ W.cell? ⟨xb, 1, none⟩ = some (.string xt) ∧ W.cell? ⟨xb, 2, none⟩ = some (.int .i64 xn))) (by kernel_rfl) (⟨cell_of_block XB0.out 0, cell_of_block XB0.out 1, cell_of_block XB0.out 2⟩) (fun hHeld => ?_)
              generalize w8.drew = v0 at *
              refine wpAnyH_take (i := 0) (oi := { dst := some 117, op := Op.load 31 (Operand.tmp 14), type := 31, pos := "law.go:62", after := #[], guard := none }) (v := ?_) rfl (by kernel_rfl) (by kernel_rfl) (by kernel_rfl) (fun _ _ _ h => h) (Or.inl ⟨by kernel_rfl, ?_⟩) hHeld ?_
              rotate_left
              · (intro w hSw; (try dsimp only at hSw); go_simp); try with_reducible rfl
              try simp only [Act.put, List.setIfInBounds_toArray, List.set_cons_zero, List.set_cons_succ]
              refine wpAnyH_take (i := 2) (oi := { dst := some 119, op := Op.move (Operand.tmp 2), type := 22, pos := "law.go:62", after := #[], guard := none }) (v := ?_) rfl (by kernel_rfl) (by kernel_rfl) (by kernel_rfl) (fun _ _ _ h => h) (Or.inl ⟨by kernel_rfl, ?_⟩) hHeld ?_
              rotate_left
              · (intro w hSw; (try dsimp only at hSw); go_simp); try with_reducible rfl
              try simp only [Act.put, List.setIfInBounds_toArray, List.set_cons_zero, List.set_cons_succ]
              refine wpAnyH_take (i := 3) (oi := { dst := some 120, op := Op.move (Operand.tmp 2), type := 22, pos := "law.go:62", after := #[], guard := none }) (v := ?_) rfl (by kernel_rfl) (by kernel_rfl) (by kernel_rfl) (fun _ _ _ h => h) (Or.inl ⟨by kernel_rfl, ?_⟩) hHeld ?_
              rotate_left
              · (intro w hSw; (try dsimp only at hSw); go_simp); try with_reducible rfl
              try simp only [Act.put, List.setIfInBounds_toArray, List.set_cons_zero, List.set_cons_succ]
              refine wpAnyH_take (i := 4) (oi := { dst := some 121, op := Op.call { callee := Callee.builtin Builtin.len, args := #[Operand.tmp 120], argTypes := #[22] }, type := 3, pos := "law.go:62", after := #[{ on := 3, ground := Ground.data }], guard := none }) (v := ?_) rfl (by kernel_rfl) (by kernel_rfl) (by kernel_rfl) (fun _ _ _ h => h) (Or.inl ⟨by kernel_rfl, ?_⟩) hHeld ?_
              rotate_left
              · (intro w hSw; (try dsimp only at hSw); go_simp); try with_reducible rfl
              try simp only [Act.put, List.setIfInBounds_toArray, List.set_cons_zero, List.set_cons_succ]
              refine wpAnyH_take (i := 5) (oi := { dst := some 122, op := Op.call { callee := Callee.builtin Builtin.min, args := #[Operand.tmp 121, Operand.const (Value.int IntKind.i64 5)], argTypes := #[3, 3] }, type := 3, pos := "law.go:62", after := #[{ on := 4, ground := Ground.data }], guard := none }) (v := ?_) rfl (by kernel_rfl) (by kernel_rfl) (by kernel_rfl) (fun _ _ _ h => h) (Or.inl ⟨by kernel_rfl, ?_⟩) hHeld ?_
              rotate_left
              · (intro w hSw; (try dsimp only at hSw); go_simp); try with_reducible rfl
              try simp only [Act.put, List.setIfInBounds_toArray, List.set_cons_zero, List.set_cons_succ]
              refine wpAnyH_take (i := 6) (oi := { dst := some 123, op := Op.slice 22 (Operand.tmp 119) none (some (Operand.tmp 122)) none, type := 22, pos := "law.go:62", after := #[{ on := 2, ground := Ground.data }, { on := 5, ground := Ground.data }], guard := none }) (v := ?_) rfl (by kernel_rfl) (by kernel_rfl) (by kernel_rfl) (fun _ _ _ h => h) (Or.inl ⟨by kernel_rfl, ?_⟩) hHeld ?_
              rotate_left
              · (intro w hSw; (try dsimp only at hSw); go_simp); try with_reducible rfl
              try simp only [Act.put, List.setIfInBounds_toArray, List.set_cons_zero, List.set_cons_succ]
              refine wpAnyH_take (i := 9) (oi := { dst := some 126, op := Op.move (Operand.const (Value.int IntKind.i64 0)), type := 3, pos := "law.go:62", after := #[], guard := none }) (v := ?_) rfl (by kernel_rfl) (by kernel_rfl) (by kernel_rfl) (fun _ _ _ h => h) (Or.inl ⟨by kernel_rfl, ?_⟩) hHeld ?_
              rotate_left
              · (intro w hSw; (try dsimp only at hSw); go_simp); try with_reducible rfl
              try simp only [Act.put, List.setIfInBounds_toArray, List.set_cons_zero, List.set_cons_succ]
              refine wpAnyH_ready (rs := [1]) (by kernel_rfl) (by simp) (AllReadyH.cons (o := { dst := some 118, op := Op.buildSlice 22 1 #[(0, Operand.tmp 117)], type := 22, pos := "law.go:62", after := #[{ on := 0, ground := Ground.data }], guard := none }) rfl (fun K hK => ?_) AllReadyH.nil)
              have hOld := hide hHeld
              clear hHeld
              go_simp
              have XB1 := hide ((heap_old v0 (.cells #[.int .u64 xk, .string xt, .int .i64 xn] 31) _ (heap_lt XB0.out)).trans XB0.out)
              have KT1 := hide (KT0.out.trans (KeepsT.of_below (Ts := [31]) ((Below.refl v0.heap.size v0).alloc (Nat.le_refl _) (.cells #[.int .u64 xk, .string xt, .int .i64 xn] 31))))
              have BL1 := hide (BL0.out.alloc BL0.out.size (.cells #[.int .u64 xk, .string xt, .int .i64 xn] 31))
              have OW1 := hide (show (v0.alloc (.cells #[.int .u64 xk, .string xt, .int .i64 xn] 31)).ownsRow v0.heap.size 31 3 (.slice (some ⟨v0.heap.size, 0, none⟩) 1 1) 1 ([Ent.mk xk xt xn].flatMap entC) from ⟨rfl, .inr ⟨v0.heap.size, 1, _, rfl, Nat.le_refl _, heap_new v0 _, Nat.le_refl _, by unfold maxLen; omega, rfl, rfl⟩⟩)
              have HZ1 := hide (show v0.heap.size ≤ (v0.alloc (.cells #[.int .u64 xk, .string xt, .int .i64 xn] 31)).heap.size by simp)
              have QI1 := hide (QI0.out.below ((Below.refl v0.heap.size v0).alloc (Nat.le_refl _) (.cells #[.int .u64 xk, .string xt, .int .i64 xn] 31)))
              have HB1B := hide (show w.heap.size ≤ v0.heap.size from BL0.out.size)
              have HXN := hide (show (Value.slice (some ⟨v0.heap.size, 0, none⟩) 1 1).ownBlock ≠ some xb from fun h => by
                have h1 := heap_lt XB0.out
                have h2 : v0.heap.size = xb := Option.some.inj h
                omega)
              generalize v0.alloc (.cells #[.int .u64 xk, .string xt, .int .i64 xn] 31) = v1 at *
              generalize v0.heap.size = b1 at *
              (try go_wp2_with fail)
              refine hK.out _ _ (⟨cell_of_block XB1.out 0, cell_of_block XB1.out 1, cell_of_block XB1.out 2⟩) (fun hHeld => ?_)
              clear hK K hOld
              try simp only [Act.put, List.setIfInBounds_toArray, List.set_cons_zero, List.set_cons_succ]
              refine wpAnyH_ready (rs := [7]) (by kernel_rfl) (by simp) (AllReadyH.cons (o := { dst := some 124, op := Op.call { callee := Callee.builtin Builtin.append, args := #[Operand.tmp 118, Operand.tmp 123], argTypes := #[22, 22] }, type := 22, pos := "law.go:62", after := #[{ on := 1, ground := Ground.data }, { on := 6, ground := Ground.data }], guard := none }) rfl (fun K hK => ?_) AllReadyH.nil)
              have hOld := hide hHeld
              clear hHeld
              refine wp_append_own2 _ (.tmp 118) (.tmp 123) 22 rfl b1 31 i0 (.agg #[.int .u64 0, .string ⟨#[]⟩, .int .i64 0]) 3 32 Try.underlying22 HI.out HZ0.out HZ1'.out HZ2.out rfl (by decide) (.slice (some ⟨b1, 0, none⟩) 1 1) 1 ([Ent.mk xk xt xn].flatMap entC) rfl OW1.out ⟨qb, qo, none⟩ m5 qc (by omega) (AQ.flatMap entC) rfl HAQ3.out (HQC.out v1 QI1.out) (entsC_one AQ) (by unfold maxLen; omega) (by omega) HZ1.out ?_
              intro g7 c7 v7 ho hgr hge
              have OW7 := hide (show v7.ownsRow b1 31 3 (.slice (some ⟨g7, 0, none⟩) (1 + m5) c7) (1 + m5) ((Ent.mk xk xt xn :: AQ).flatMap entC) from ho)
              have KT7 := hide (KT1.out.trans (KeepsT.grown (Ts := [31]) OW1.out (by simp) hgr))
              have BL7 := hide (BL1.out.grown hgr BL1.out.size (fun j hj => by have := (OW1.out.lt j hj).1; have := HB1B.out; omega))
              have XB7 := hide (grown_block XB1.out hgr HXN.out)
              clear ho hgr hge
              refine hK.out _ _ (⟨cell_of_block XB7.out 0, cell_of_block XB7.out 1, cell_of_block XB7.out 2⟩) (fun hHeld => ?_)
              clear hK K hOld
              try simp only [Act.put, List.setIfInBounds_toArray, List.set_cons_zero, List.set_cons_succ]
              refine wpAnyH_take (i := 8) (oi := { dst := some 125, op := Op.call { callee := Callee.builtin Builtin.len, args := #[Operand.tmp 124], argTypes := #[22] }, type := 3, pos := "law.go:62", after := #[{ on := 7, ground := Ground.data }], guard := none }) (v := ?_) rfl (by kernel_rfl) (by kernel_rfl) (by kernel_rfl) (fun _ _ _ h => h) (Or.inl ⟨by kernel_rfl, ?_⟩) hHeld ?_
              rotate_left
              · (intro w hSw; (try dsimp only at hSw); go_simp); try with_reducible rfl
              try simp only [Act.put, List.setIfInBounds_toArray, List.set_cons_zero, List.set_cons_succ]
              refine wpAnyH_done (by kernel_rfl) ?_ _
              clear hHeld
              go_wp2_with fail
              go_meet
              rw [← hAQ]
              have hql : (Ent.mk xk xt xn :: AQ).length = 1 + m5 := by rw [List.length_cons, hAQ, List.length_take]; omega
              unfold AskIs
              rw [hql]
              exact ⟨b1, _, c7, rfl, by rw [Int.natCast_add]; rfl, rfl, OW7.out, KT7.out, BL7.out⟩
          case rest =>
            obtain ⟨B1, a7, c7, rfl, rfl, rfl, ho, hkt, hb⟩ := hcut
            have HQ6 := hide (show (Ent.mk xk xt xn :: A0.take m5).length ≤ 6 by rw [List.length_cons, List.length_take]; omega)
            have KQ := hide (K8.out.turns hkt.turns (by decide) (by decide))
            have NQ := hide (hkt.owns N8.out (by decide))
            have BQ := hide hb
            have OQ := hide ho
            generalize (Ent.mk xk xt xn :: A0.take m5) = Q at *
            clear ho hkt hb K8 N8 B8 XB8
            have hqn := HQ6.out
            go_wp2_with fail
            go_loopw [126] (fun i W => ∃ k : Nat, k ≤ Q.length ∧ i = .int .i64 k ∧ KeysAt W p w.heap.size (kk + 1) L' v' ∧ W.ownsRow w.heap.size 35 3 (.slice na L'.length nc) L'.length (L'.flatMap entC) ∧ W.ownsRow B1 31 3 (.slice a7 Q.length c7) Q.length (Q.flatMap entC) ∧ Below w.heap.size w W) (fun i _ => Q.length - (intOf i).toNat)
            case atStart => exact ⟨0, by omega, rfl, KQ.out, NQ.out, OQ.out, BQ.out⟩
            case round =>
              obtain ⟨k, hk, rfl, h1, h2, h3, h4⟩ := hrel
              have KI := hide h1
              have NI := hide h2
              have OI := hide h3
              have BI := hide h4
              clear h1 h2 h3 h4 KQ NQ BQ OQ
              by_cases hlt2 : k < Q.length
              · obtain ⟨g7, rfl, hg7, e0, e1, e2⟩ := ents_atT OI.out k hlt2
                generalize Q.getD k ent0 = y at *
                obtain ⟨yk, ys, yn⟩ := y
                dsimp only at *
                go_wp2_with fail
                obtain ⟨ob, hob⟩ : ∃ ob, ob = (Obj.cells #[.int .u64 yk, .string ys, .int .i64 yn] 31) := ⟨_, rfl⟩
                rw [← hob]
                have YB := hide (heap_new wr ob)
                have hal := (Below.refl wr.heap.size wr).alloc (Nat.le_refl _) ob
                have KA := hide (KI.out.below hal)
                have NA := hide (NI.out.alloc ob)
                have OA := hide (OI.out.alloc ob)
                have BA := hide (BI.out.alloc BI.out.size ob)
                clear hal e0 e1 e2 hg7
                generalize wr.alloc ob = wa at *
                generalize wr.heap.size = yb at *
                rw [hob] at YB
                clear hob KI NI OI BI
                have HLB := HL'.out
                refine (match_any L' (by omega) p _ _ v' yk ys wa KA.out).mono ?_
                rintro e wb ⟨rfl, hb⟩
                have KB := hide (KA.out.below hb)
                have NB := hide (owns_below NA.out hb)
                have OB := hide (owns_below OA.out hb)
                have BB := hide (below_trans BA.out hb)
                have YC := hide ((hb.block _ (heap_lt YB.out)).trans YB.out)
                clear hb KA NA OA BA YB
                have d0 := cell_of_block YC.out 0
                have d1 := cell_of_block YC.out 1
                have d2 := cell_of_block YC.out 2
                go_wp2_with fail
                refine (rmatch_any L' (by omega) na nc _ yk ys wb NB.out).mono ?_
                rintro e w' ⟨rfl, rfl⟩
                go_wp2_with fail
                go_roundw
                case rel => exact ⟨k + 1, by omega, by go_num, KB.out, NB.out, OB.out, BB.out⟩
                case measure => simp [intOf]; omega
              · obtain rfl : k = Q.length := by omega
                go_wp2_with fail
                go_roundw
                case rel => exact ⟨j + 1, L', v', na, nc, by omega, by go_num, rfl, HL'.out, HG'.out, KI.out, NI.out, BI.out⟩
                case measure => simp [intOf]; omega
        · obtain rfl : j = n := by omega
          have hgg := GJ.out
          have HLB := hlk
          go_wp2_with fail
          obtain ⟨ob, hob⟩ : ∃ ob, ob = (Obj.cells #[.slice none 0 0, .bool false] 45) := ⟨_, rfl⟩
          rw [← hob]
          have hal := (Below.refl wr.heap.size wr).alloc (Nat.le_refl _) ob
          have WA := hide (show WrAt (wr.alloc ob) w.heap.size wr.heap.size [] false from ⟨none, 0, by rw [hob]; exact heap_new wr _, World.ownsRow_nil _ _ _ _⟩)
          have HQB := hide BJ.out.size
          have KA := hide (KJ.out.below hal)
          have NA := hide (OJ.out.alloc ob)
          have BA := hide (BJ.out.alloc BJ.out.size ob)
          clear hal
          generalize wr.alloc ob = wa at *
          generalize wr.heap.size = qw at *
          clear hob KJ OJ BJ
          refine (write24_any L (by omega) GJ.out p _ _ w.heap.size qw v wa KA.out WA.out HQB.out).mono ?_
          rintro e wb ⟨rfl, hw, hb, hkt⟩
          have KB := hide (KA.out.turns hkt.turns (by decide) (by decide))
          have NB := hide (hkt.owns NA.out (by decide))
          have BB := hide (BA.out.trans hb)
          have WB := hide hw
          clear hw hb hkt KA NA BA WA
          go_wp2_with fail
          refine (write24_nil L (by omega) GJ.out p _ _ v wb KB.out).mono ?_
          rintro e wd ⟨rfl, hb⟩
          have ND := hide (owns_below NB.out hb)
          have BD := hide (below_trans BB.out hb)
          have WD := hide (WB.out.below hb)
          clear hb KB NB BB WB
          go_wp2_with fail
          refine (wbytes_any _ qw _ false _ WD.out).mono ?_
          rintro e w' ⟨rfl, rfl⟩
          go_wp2_with fail
          refine (rtext24 L (by omega) GJ.out ma mc _ _ ND.out).mono ?_
          rintro e wf ⟨rfl, hb⟩
          have BF := hide (below_trans BD.out hb)
          clear hb
          go_wp2_with fail
          go_ret
          exact ⟨rfl, BF.out⟩

theorem keysPlay_walk0 (w : World) (limit : Int) (l0 : -9223372036854775808 ≤ limit) (l1 : limit ≤ 9223372036854775807)
    (v1 : Value) (z1 : ∃ (a : Option Addr) (L : List Ent) (cap : Nat), v1 = .slice a L.length cap ∧ L.length ≤ cap ∧ L.length ≤ 9223372036854775807 ∧ EntriesIn w a L ∧ ∀ x ∈ L, EntryOk x)
    (v2 : Value) (z2 : ∃ (a : Option Addr) (L : List Ent) (cap : Nat), v2 = .slice a L.length cap ∧ L.length ≤ cap ∧ L.length ≤ 9223372036854775807 ∧ EntriesIn w a L ∧ ∀ x ∈ L, EntryOk x) :
    Calls Try.prog 3 #[.int .i64 limit, v1, v2] w fun e w' => e = .returned (.bool true) ∧ Below w.heap.size w w' := by
  obtain ⟨a, L, cap, rfl, h1, h2, h3, h4⟩ := z1
  obtain ⟨qa, A, qc, rfl, g1, g2, g3, g4⟩ := z2
  exact play24 limit l0 l1 a cap L h1 h2 h4 qa qc A g1 g2 g4 w h3 g3
theorem keysPlay_walk (limit : Int) (l0 : -9223372036854775808 ≤ limit) (l1 : limit ≤ 9223372036854775807) (v1 : Value) {w1 : World} (z1 : ∃ (a : Option Addr) (L : List Ent) (cap : Nat), v1 = .slice a L.length cap ∧ L.length ≤ cap ∧ L.length ≤ 9223372036854775807 ∧ EntriesIn w1 a L ∧ ∀ x ∈ L, EntryOk x) (v2 : Value) (z2 : ∃ (a : Option Addr) (L : List Ent) (cap : Nat), v2 = .slice a L.length cap ∧ L.length ≤ cap ∧ L.length ≤ 9223372036854775807 ∧ EntriesIn w1 a L ∧ ∀ x ∈ L, EntryOk x) (w : World) (e : w = w1 := by rfl) :
    Calls Try.prog 3 #[.int .i64 limit, v1, v2] w fun e w' => e = .returned (.bool true) ∧ Below w.heap.size w w' := by
  subst e
  exact keysPlay_walk0 w limit l0 l1 v1 z1 v2 z2

set_option maxRecDepth 100000 in
theorem keysPlay_lifted (os : Os) (started : os.Started) (H : Type) (enc : TypeId × Value → H) :
    ReturnsInHanded {} Try.checked os 3 .any (Rows.keysPlaySpec.pre6 enc Try.prog Try.f3 Rows.keysPlayRow.domain false) (Rows.keysPlaySpec.post enc Try.prog Try.f3 false true false false) := by
  refine returnsInHanded_of_change (C := Try.checked) own started (by kernel_rfl) Try.func3
    (ChangeSpec.witness6 (enc := enc) (C := Try.checked) false ⟨#[], #[.int .i64 0, .slice none 0 0, .slice none 0 0], []⟩ 8 (by kernel_rfl) (by kernel_rfl) (by kernel_rfl) (by kernel_rfl)) ?_
  intro W base args ds gs before hval0 hW _ _
  have hval : ∀ (j : Nat) t v, Try.f3.params[j]? = some t → args[j]? = some v → Value.okWide Try.prog W .any base t v := hval0
  have hW' := hW
  obtain ⟨p, q, hA0, hV, rfl, hfz, hnd⟩ := hW
  have hA : DataW.TrodAll enc Try.prog W 0 (fun _ => true) true Try.f3.params.toList args.toList ds p := hA0
  rw [Try.params3] at hA hval
  obtain ⟨v0, vs0, d0, ds0, p0, q0, hargs, rfl, rfl, h0, r0⟩ := trodAll_cons hA
  obtain ⟨v1, vs1, d1, ds1, p1, q1, rfl, rfl, rfl, h1, r1⟩ := trodAll_cons r0
  obtain ⟨v2, vs2, d2, ds2, p2, q2, rfl, rfl, rfl, h2, r2⟩ := trodAll_cons r1
  obtain ⟨rfl, rfl, rfl⟩ := trodAll_nil r2
  obtain rfl : args = #[v0, v1, v2] := by cases args; simp_all
  obtain ⟨rfl, rfl⟩ := trodVars_none hV
  obtain ⟨limit, rfl, rfl, rfl, w0⟩ := open_int Try.underlying3 (hval 0 3 v0 rfl rfl) h0
  have z0 := wf_i64 w0
  have z1 := open_entries (hval 1 22 v1 rfl rfl) h1
  have z2 := open_entries (hval 2 22 v2 rfl rfl) h2
  clear hA0 hval0
  refine (keysPlay_walk limit z0.1 z0.2 v1 z1 v2 z2 W).mono fun e W' ⟨he, hb⟩ => ?_
  subst he
  exact ⟨_, rfl, post_law laidOut (of_decide_eq_true (by kernel_rfl)) rfl rfl Try.underlying4 hW' ⟨rfl, rfl, rfl⟩ hb⟩

/-- THE STATEMENT -/
theorem keysPlay_holds : Rows.KeysPlaySaid :=
  OpenClaim.holds_of_wide 3 Try.f3 rfl rfl rfl rfl rfl rfl rfl ⟨rfl, rfl, rfl, rfl, rfl⟩ rfl rfl rfl rfl rfl (by kernel_rfl) Try.func3 (by kernel_rfl)
    (of_decide_eq_true (by kernel_rfl)) (by unfold Func.isWrapper; first | (rw [if_pos (by decide +kernel)]; kernel_rfl) | (rw [if_neg (by decide +kernel)]; exact ⟨rfl, rfl⟩))
    (fun os started H enc _ => keysPlay_lifted os started H enc)

end Go.Proofs.Ytmomjefbifoliaa
