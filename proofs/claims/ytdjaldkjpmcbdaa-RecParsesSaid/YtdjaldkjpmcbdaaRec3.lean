/-
  Layer 19, the program's calls: Parse by contract.
-/
import Derived.Test.YtdjaldkjpmcbdaaRec2
namespace Go.Proofs.Ytdjaldkjpmcbdaa
set_option linter.unusedSimpArgs false
set_option linter.unusedVariables false
open Go.RowKit Go.WideShapes Go.ChangeShapes Go.ChangeAt

theorem parse_acc {s t : List UInt8} {acc : List Rc} (h : parseP s = (parseP t).map fun l => acc ++ l) (hne : t ≠ []) (h0 : errR t = 0) : parseP s = (parseP (restR t)).map fun l => (acc ++ [firstR t]) ++ l := by
  rw [h, parseP_step t hne h0]
  cases parseP (restR t) <;> simp [Except.map]
theorem parse_end {s : List UInt8} {acc : List Rc} (h : parseP s = (parseP []).map fun l => acc ++ l) : parseP s = .ok acc := by
  rw [h, parseP_nil]; simp [Except.map]
theorem parse_stop {s t : List UInt8} {acc : List Rc} (h : parseP s = (parseP t).map fun l => acc ++ l) (hne : t ≠ []) (h0 : ¬ errR t = 0) : parseP s = .error (errR t) := by
  rw [h, parseP_err t hne h0]; rfl
theorem parse_start (s : List UInt8) : parseP s = (parseP s).map fun l => ([] : List Rc) ++ l := by cases parseP s <;> rfl
/-- what Parse answers -/
def PIs (r : Except Int (List Rc)) (w : World) (e : Ending) (w' : World) : Prop := ∃ (L : List Rc) (a : Option Addr) (cap : Nat) (c : Int), e = .returned (.tuple #[.slice a L.length cap, .int .i64 c]) ∧ ((r = .ok L ∧ c = 0) ∨ (r = .error c ∧ ¬ c = 0 ∧ L = [])) ∧ RecsIn w' a L ∧ Below w.heap.size w w'
theorem recs_of_owns {w : World} {B e : Nat} {a : Option Addr} {m cap : Nat} {L : List Rc} (h : w.ownsRow B e 2 (.slice a m cap) L.length (L.flatMap rcC)) : RecsIn w a L := fun i hi => by
  obtain ⟨g, rfl, -, hl, hj⟩ := owns_rows rcC rcC_length rc0 h i hi
  exact ⟨g, 0, rfl, hl, by rw [Nat.zero_add]; exact hj 0 (by omega), by rw [Nat.zero_add]; exact hj 1 (by omega)⟩
theorem rec_row (w : World) (k : Int) (s : ByteArray) (t : Nat) : ∀ (j : Nat) (u : Value), [Value.int .u8 k, .string s][j]? = some u → (w.alloc (.cells #[.int .u8 k, .string s] t)).cell? ((⟨w.heap.size, 0, none⟩ : Addr).add j) = some u := by
  intro j u h
  have e : (⟨w.heap.size, 0, none⟩ : Addr).add j = ⟨w.heap.size, j, none⟩ := by
    rw [Go.WideShapes.add_plain, Nat.zero_add]
  rw [e, World.cell?_alloc_new]
  simpa using h
theorem one2 (k : Int) (s : ByteArray) : ∀ u ∈ [Value.int .u8 k, .string s], u.oneCell' = true := by
  intro u hu
  simp at hu
  rcases hu with rfl | rfl <;> rfl
theorem errR_le (s : List UInt8) : errR s = 0 ∨ errR s = 4 ∨ errR s = 5 := by
  unfold errR
  by_cases h : fitR s
  · rw [if_pos h]
    by_cases h2 : sumOk s
    · rw [if_pos h2]; exact .inl rfl
    · rw [if_neg h2]; exact .inr (.inr rfl)
  · rw [if_neg h]; exact .inr (.inl rfl)
set_option maxRecDepth 100000 in
set_option maxHeartbeats 400000 in
theorem recParse_any (pb po : Nat) (s : List UInt8) (hs : s.length ≤ 1000000) (w : World) (ht : TabAt w pb po) :
    Calls Try.prog 14 #[.pointer (some ⟨pb, po, none⟩), .string (bs s)] w (PIs (parseP s) w) := by
  obtain ⟨i0, hi, hz0, hz1, hz2⟩ := info_parts (show (Try.prog.info? 38).map (fun i => (i.zero, i.size, i.bytes)) = some (some (.agg #[.int .u8 0, .string ⟨#[]⟩]), 2, 24) by kernel_rfl)
  have HI := hide hi
  have HZ0 := hide hz0
  have HZ1 := hide hz1
  have HZ2 := hide hz2
  have HT := hide ht
  have hpl := tabAt_lt ht
  have HST := hide (parse_start s)
  clear ht hi hz0 hz1 hz2
  go_enter Try.func14, Try.ntmps14
  go_wp2_with fail
  go_loopw [1, 6] (fun x v W => ∃ (t : List UInt8) (acc : List Rc) (a : Option Addr) (cap : Nat), t.length ≤ s.length ∧ acc.length + t.length ≤ s.length ∧ x = .string (bs t) ∧ v = .slice a acc.length cap ∧ W.ownsRow w.heap.size 38 2 (.slice a acc.length cap) acc.length (acc.flatMap rcC) ∧ Below w.heap.size w W ∧ parseP s = (parseP t).map fun l => acc ++ l) (fun x _ _ => match x with | .string b => b.size | _ => 0)
  case atStart => exact ⟨s, [], none, 0, by omega, by simp, rfl, rfl, World.ownsRow_nil _ _ _ _, Below.refl _ _, HST.out⟩
  case round =>
    clear HST
    obtain ⟨t, acc, a, cap, hts, hat, rfl, rfl, hown, hB, hp⟩ := hrel
    have HOWN := hide hown
    have HB := hide hB
    have HP := hide hp
    clear hown hB hp
    by_cases hne : t = []
    · subst hne
      have he : (bs []).toList = [] := bs_asList []
      have HE := hide (parse_end HP.out)
      go_wp2_with fail
      go_ret2
      exact ⟨acc, a, cap, 0, rfl, .inl ⟨HE.out, rfl⟩, recs_of_owns HOWN.out, HB.out⟩
    · have he : (bs t).toList.isEmpty = false := by rw [bs_asList]; cases t with
        | nil => exact absurd rfl hne
        | cons => rfl
      have htl : 0 < t.length := List.length_pos_iff.2 hne
      have HFI := hide (fun W h => recFirst_any pb po t (by omega) W h)
      by_cases h0 : errR t = 0
      · have hfit := (errR_fit t h0).1
        have HP2 := hide (parse_acc HP.out hne h0)
        have hfz : firstZ t = firstR t := by unfold firstZ; rw [if_pos h0]
        have HFR := hide (firstR_right t hfit)
        have hfl := firstR_len t hfit
        have hf2 := hfit.2.2.1
        have hf4 := hfit.2.2.2
        have HSZ := hide (fun W => rec_size (firstR t) (by rw [hfl]; omega) W)
        rw [HFR.out, if_pos rfl, hfl] at HSZ
        rw [hfz, h0] at HFI
        have hrl : (restR t).length < t.length := restR_lt t hne
        have hrl2 : (restR t).length + 1 ≤ t.length := by omega
        have hsl : (bs t).extract (7 + lenR t) (bs t).size = bs (restR t) := bs_from t _ _ (bs_size t)
        have hsz : (bs t).size = t.length := bs_size t
        have hb1 : (0 : Int) ≤ 7 + (lenR t : Int) := by omega
        have hb2 : 7 + (lenR t : Int) ≤ ((bs t).size : Int) := by rw [hsz]; omega
        have htn : (7 + (lenR t : Int)).toNat = 7 + lenR t := by omega
        have hcast : ((7 + lenR t : Nat) : Int) = 7 + (lenR t : Int) := by omega
        rw [hcast] at HSZ
        have HRC := hide (show rcC (firstR t) = [.int .u8 ((firstR t).1.toNat : Int), .string (bs (firstR t).2)] from rfl)
        have HRB := hide (bs_size (restR t))
        have HSS := hide hsz
        clear hfit hfz hcast hsz hfl hf2 hf4 h0
        have hacc : acc.length ≤ 1000000 := by omega
        generalize (firstR t) = r at *
        generalize bs r.2 = l at *
        generalize (r.1.toNat : Int) = k at *
        generalize bs t = S at *
        generalize lenR t = n at *
        go_wp2_with fail
        refine (HFI.out _ (tabAt_below HT.out HB.out hpl)).mono ?_
        rintro e w1 ⟨rfl, hb1w⟩
        have HB1 := hide (HB.out.trans (hb1w.mono HB.out.size))
        have HO1 := hide (owns_below HOWN.out hb1w)
        clear hb1w HOWN HB HFI
        have HR2 := hide (heap_new w1 (.cells #[.int .u8 k, .string l] 38))
        have HO2 := hide (HO1.out.alloc (.cells #[.int .u8 k, .string l] 38))
        have HB2 := hide (HB1.out.alloc HB1.out.size (.cells #[.int .u8 k, .string l] 38))
        have HO3 := hide (HO2.out.alloc (.cells #[.int .u8 k, .string l] 38))
        have HB3 := hide (HB2.out.alloc HB2.out.size (.cells #[.int .u8 k, .string l] 38))
        have HR3 := hide ((heap_old (w1.alloc (.cells #[.int .u8 k, .string l] 38)) (.cells #[.int .u8 k, .string l] 38) w1.heap.size (heap_lt HR2.out)).trans HR2.out)
        have hsz1 : (w1.alloc (.cells #[.int .u8 k, .string l] 38)).heap.size = w1.heap.size + 1 := by simp
        have HNEW := hide (rec_row (w1.alloc (.cells #[.int .u8 k, .string l] 38)) k l 38)
        rw [hsz1] at HNEW
        clear hsz1
        have HLT := hide (fun j (h : (Value.slice a acc.length cap).ownBlock = some j) => HO1.out.lt j h)
        go_wp2_with (at_builtin; refine wpList_append_own _ rfl _ _ 27 rfl w.heap.size 38 i0 (.agg #[.int .u8 0, .string ⟨#[]⟩]) 2 24 Try.underlying27 HI.out HZ0.out HZ1.out HZ2.out rfl (by decide) (.slice a acc.length cap) acc.length (acc.flatMap rcC) rfl HO3.out ⟨w1.heap.size + 1, 0, none⟩ 1 1 [.int .u8 k, .string l] rfl rfl HNEW.out (one2 _ _) (by unfold maxLen; omega) (by omega) HB3.out.size ?_; intro v' w' ho hgr hnil; obtain ⟨a3, c3', rfl⟩ := owns_slice_n ho; have HO4 := hide ho; have HB4 := hide (HB3.out.grown hgr HB3.out.size (fun j h => (HLT.out j h).1)); have hR4 := (hgr.block w1.heap.size (heap_lt HR3.out) (fun e => absurd (HLT.out _ e.symm).2 (Nat.lt_irrefl _))).trans HR3.out; have e0 := (cell_of_block hR4 0).trans (show _ = some (Value.int .u8 k) from rfl); have e1 := (cell_of_block hR4 1).trans (show _ = some (Value.string l) from rfl); clear ho hgr hnil)
        refine (HSZ.out _).mono ?_
        rintro e w5 ⟨rfl, hb5⟩
        have HO5 := hide (owns_below HO4.out hb5)
        have HB5 := hide (HB4.out.trans (hb5.mono HB4.out.size))
        clear hb5 HO4 HB4 HR2 HR3 HO1 HO2 HO3 HB1 HB2 HB3
        go_wp2_with fail
        go_roundw
        case rel =>
          refine ⟨restR t, acc ++ [r], a3, c3', by omega, by simp; omega, rfl, by simp, ?_, HB5.out, HP2.out⟩
          rw [List.length_append, List.length_singleton, List.flatMap_append]
          have := HO5.out
          rw [← HRC.out] at this
          simpa using this
        case measure => simp only [HRB.out, HSS.out]; omega
      · have HP2 := hide (parse_stop HP.out hne h0)
        have hfz : firstZ t = rc0 := by unfold firstZ; rw [if_neg h0]
        rw [hfz] at HFI
        have HE0 := hide h0
        clear hfz
        generalize errR t = er at *
        generalize bs t = S at *
        go_wp2_with fail
        refine (HFI.out _ (tabAt_below HT.out HB.out hpl)).mono ?_
        rintro e w1 ⟨rfl, hb1w⟩
        have HB1 := hide (HB.out.trans (hb1w.mono HB.out.size))
        have HB2 := hide (HB1.out.alloc HB1.out.size (.cells #[.int .u8 (rc0.1.toNat : Int), .string (bs rc0.2)] 38))
        clear hb1w HOWN HB HFI
        go_wp2_with fail
        go_ret2
        exact ⟨[], none, 0, er, rfl, .inr ⟨HP2.out, HE0.out, rfl⟩, fun i hi => absurd hi (by simp), HB2.out⟩
theorem recParse_nil (s : ByteArray) (w : World) : Calls Try.prog 14 #[.pointer none, .string s] w fun e w' => e = .returned (.tuple #[.slice none 0 0, .int .i64 1]) ∧ Below w.heap.size w w' := by
  go_enter Try.func14, Try.ntmps14
  go_wp2_with fail
  go_ret2
  exact ⟨rfl, Below.refl _ _⟩
end Go.Proofs.Ytdjaldkjpmcbdaa
