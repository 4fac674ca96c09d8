/-
  A reply that can be written is told again of its bytes; all bytes are told as a reply whose bytes they are, or not at all; an error stands alone (P28.2, P28.3): for every reply, kind and text.
-/
import Derived.Test.YtkbikflincjhhaaRepB

namespace Go.Proofs.Ytkbikflincjhhaa
set_option linter.unusedSimpArgs false
set_option linter.unusedVariables false
open Go.RowKit Go.WideShapes Go.ChangeShapes Go.ChangeAt Go.Deep
theorem nmB_two (s : ByteArray) : (300 < s.size ∧ (s.extract 0 300).size ≤ 300) ∨ s.size ≤ 300 := by
  by_cases h : 300 < s.size
  · refine Or.inl ⟨h, ?_⟩
    rw [ByteArray.size_extract]; omega
  · exact Or.inr (by omega)
/-- the reply's row in memory, and what is below it -/
theorem low_new {w W : World} (hb : Below w.heap.size w W) (o : Obj) : Below w.heap.size w (W.alloc o) := hb.trans (((Below.refl W.heap.size W).alloc (Nat.le_refl _) o).mono hb.size)
theorem keep_new {W : World} {b : Nat} {x : Obj} (h : W.heap[b]? = some x) (hl : b < W.heap.size) (o : Obj) : (W.alloc o).heap[b]? = some x := (((Below.refl W.heap.size W).alloc (Nat.le_refl _) o).block _ hl).trans h
theorem LnIn.new {W : World} {a : Option Addr} {L : List LnM} (h : LnIn W a L) (o : Obj) : LnIn (W.alloc o) a L := h.below ((Below.refl W.heap.size W).alloc (Nat.le_refl _) o)
theorem parQ (k : Nat) (hk : 1 ≤ k ∧ k ≤ 14) (u : ByteArray) (hu : u.size ≤ 300) (W : World) : Calls Try.prog 16 #[.int .u8 (k : Int), .string u] W (ParIs k u.data.toList W) := by
  have h := par_all k hk u.data.toList (by rw [size_list]; omega) W
  rw [bs_of] at h
  exact h
theorem rencQ (k : Nat) (hk : 1 ≤ k ∧ k ≤ 14) (x : RpM) (hx : RpOk x) (n : Nat) (hn : x.L.length = n) (a : Option Addr) (cap : Nat) (w : World) (hin : LnIn w a x.L) :
    Calls Try.prog 15 #[.agg (rpC x (.slice a n cap)), .int .u8 (k : Int)] w fun e w' => e = .returned (.string (outS (rencOk k x) (rencT k x))) ∧ Below w.heap.size w w' := by
  subst hn
  exact renc_all k hk x hx a cap w hin
/-- a whole row, loaded by a guarded operation whose guard holds -/
theorem wpList_rowLoadG {P : Program} {ops : Array Oper} {rest : List Oper} {o : Oper} {a : Act} {w : World} {Q : Exit → Act → World → Prop} (hw : Region.wanted o (yielded ops a.tmps) = true) (ty : TypeId) (x : Operand) (ho : o.op = .load ty x)
    (g : Nat) (hx : a.eval x = .pointer (some ⟨g, 0, none⟩)) (t : TypeId) (cs : Array Value) (fr : Nat × Nat) (d : TypeDesc) (hg : w.heap[g]? = some (.cells cs t fr))
    (hu : P.underlying ty = some d) (hd : (match d with | .struct _ | .array _ _ => true | _ => false) = true) (hi : (P.info? ty).map (·.size) = some cs.size)
    (h : wpList P ops Q rest (a.put o.dst (.agg cs)) w) : wpList P ops Q (o :: rest) a w :=
  wpList_step fun _ hK => by
    rw [if_pos hw]
    exact wp_load_row ty x ho g hx t cs fr d hg hu hd hi (hK _ _ h)
theorem below_drewN {B : Nat} {a b : World} (h : Below B a b) (n : Nat) : Below B a (b.drewN n) := ⟨h.os, h.tape, h.output, h.size, h.block⟩
theorem par_short {k : Nat} (hk : 1 ≤ k ∧ k ≤ 14) {l : List UInt8} (h : parO k l = true) : l.length ≤ 300 := by
  unfold parO at h
  rw [Bool.and_eq_true, decide_eq_true_eq] at h
  obtain ⟨h1, h2⟩ := h
  by_cases h0 : kd l = 0
  · rw [if_pos h0] at h2
    have e : (l.drop 1).length = l.length - 1 := List.length_drop
    generalize l.drop 1 = m at *
    have hc : Plain k ∨ k = 3 ∨ k = 10 ∨ k = 11 ∨ k = 12 ∨ k = 13 ∨ k = 14 := by unfold Plain; omega
    rcases hc with hp | rfl | rfl | rfl | rfl | rfl | rfl
    · rw [(repD_plain hp m).1, decide_eq_true_eq] at h2; omega
    · have := of_decide_eq_true h2; omega
    · have := of_decide_eq_true h2; omega
    · rw [repD_tx, decide_eq_true_eq] at h2; omega
    · have := of_decide_eq_true h2; omega
    · have := of_decide_eq_true h2; omega
    · have := (of_decide_eq_true h2).1; omega
  · rw [if_neg h0, decide_eq_true_eq] at h2
    omega
/-- bytes that are a reply's, told -/
theorem par_good (k : Nat) (hk : 1 ≤ k ∧ k ≤ 14) (l : List UInt8) (h : parO k l = true) : RpOk (parR k l) ∧ outS (rencOk k (parR k l)) (rencT k (parR k l)) = bs l ∧
    ∀ W, Calls Try.prog 16 #[.int .u8 (k : Int), .string (bs l)] W fun e w' => ∃ (a : Option Addr) (c : Nat), e = .returned (.tuple #[.agg (rpC (parR k l) (.slice a (parR k l).L.length c)), .int .i64 0]) ∧ LnIn w' a (parR k l).L ∧ Below W.heap.size W w' := by
  obtain ⟨h3, h4⟩ := par_enc k hk l h
  refine ⟨parR_ok k hk l h, by rw [(outr_yes (T := rencT k (parR k l)) h3).1, h4], fun W => ?_⟩
  have hp := par_all k hk l (by have := par_short hk h; omega) W
  unfold ParIs at hp
  obtain ⟨d1, d2⟩ := par_yes h
  rw [d1, d2] at hp
  exact hp
theorem par_else (k : Nat) (hk : 1 ≤ k ∧ k ≤ 14) (l : List UInt8) (hl : l.length ≤ 1000000) (h : ¬ parO k l = true) (W : World) :
    Calls Try.prog 16 #[.int .u8 (k : Int), .string (bs l)] W fun e w' => ∃ (a : Option Addr) (c : Nat), e = .returned (.tuple #[.agg (rpC rp0 (.slice a 0 c)), .int .i64 4]) ∧ Below W.heap.size W w' := by
  have hp := par_all k hk l hl W
  unfold ParIs at hp
  obtain ⟨d1, d2⟩ := par_no h
  rw [d1, d2] at hp
  exact hp.mono fun e w' ⟨a, c, h1, h2, h3⟩ => ⟨a, c, h1, h3⟩
/-- a text: it is a reply's bytes, or it isn't -/
theorem par_text (k : Nat) (hk : 1 ≤ k ∧ k ≤ 14) (u : ByteArray) (hu : u.size ≤ 300) :
    (∃ z : RpM, RpOk z ∧ outS (rencOk k z) (rencT k z) = u ∧ ∀ W, Calls Try.prog 16 #[.int .u8 (k : Int), .string u] W fun e w' => ∃ (a : Option Addr) (c : Nat), e = .returned (.tuple #[.agg (rpC z (.slice a z.L.length c)), .int .i64 0]) ∧ LnIn w' a z.L ∧ Below W.heap.size W w') ∨
    ∀ W, Calls Try.prog 16 #[.int .u8 (k : Int), .string u] W fun e w' => ∃ (a : Option Addr) (c : Nat), e = .returned (.tuple #[.agg (rpC rp0 (.slice a 0 c)), .int .i64 4]) ∧ Below W.heap.size W w' := by
  by_cases h : parO k u.data.toList = true
  · obtain ⟨h1, h2, h3⟩ := par_good k hk _ h
    rw [bs_of] at h2
    rw [bs_of] at h3
    exact Or.inl ⟨_, h1, h2, h3⟩
  · refine Or.inr fun W => ?_
    have := par_else k hk _ (by rw [size_list]; omega) h W
    rw [bs_of] at this
    exact this
theorem bs_ne {T : List UInt8} (h : 1 ≤ T.length) : (bs T).toList.isEmpty = false := by
  rw [Lib.toList_data, List.isEmpty_eq_false_iff]
  intro e
  have := congrArg List.length e
  rw [bs_toList] at this
  simp only [List.length_nil] at this
  omega
/-- the bytes of a reply that may be: told again, and with one more not -/
def AgainIs (k : Nat) (er : Int) (t : ByteArray) : Prop := (t.toList.isEmpty = false ∧ t.size ≤ 300) ∧ (∃ z : RpM, z.err = er ∧ RpOk z ∧ outS (rencOk k z) (rencT k z) = t ∧ ∀ W, Calls Try.prog 16 #[.int .u8 (k : Int), .string t] W fun e w' => ∃ (a : Option Addr) (c : Nat), e = .returned (.tuple #[.agg (rpC z (.slice a z.L.length c)), .int .i64 0]) ∧ LnIn w' a z.L ∧ Below W.heap.size W w') ∧
    ∀ W, Calls Try.prog 16 #[.int .u8 (k : Int), .string (t ++ ⟨#[120]⟩)] W fun e w' => ∃ (a : Option Addr) (c : Nat), e = .returned (.tuple #[.agg (rpC rp0 (.slice a 0 c)), .int .i64 4]) ∧ Below W.heap.size W w'
theorem again (k : Nat) (hk : 1 ≤ k ∧ k ≤ 14) (x : RpM) : outS (rencOk k x) (rencT k x) = ⟨#[]⟩ ∨ AgainIs k x.err (outS (rencOk k x) (rencT k x)) := by
  rcases told_again k hk x with h | ⟨T, h1, h2, h3, h4, h5, h6, h7⟩
  · exact Or.inl h
  · right
    rw [h2]
    obtain ⟨g1, g2, g3⟩ := par_good k hk T h3
    refine ⟨⟨bs_ne h1, by rw [bs_size]; exact par_short hk h3⟩, ⟨parR k T, h4, g1, g2, g3⟩, fun W => ?_⟩
    have := par_else k hk (T ++ [120]) (by rw [List.length_append]; have := par_short hk h3; simp; omega) h7 W
    rw [← bs_append] at this
    exact this
set_option maxRecDepth 100000 in
set_option maxHeartbeats 2000000 in
theorem reqReplies_good (y : InP) (hy : InPOk y) (a : Option Addr) (L : List LnM) (cap : Nat) (hcap : L.length ≤ cap) (h63 : L.length ≤ 9223372036854775807) (k : Nat) (hk : 1 ≤ k ∧ k ≤ 14) (s : ByteArray) (hs : s.size ≤ 9223372036854775807) (w : World) (hin : LnIn w a L) (hok : ∀ x ∈ L, LnOk x) :
    Calls Try.prog 5 #[.agg (inP y (.slice a L.length cap)), .int .u8 (k : Int), .string s] w fun e w' => e = .returned (.bool true) ∧ Below w.heap.size w w' := by
  obtain ⟨n, hn⟩ : ∃ n, min L.length 10 = n := ⟨_, rfl⟩
  have HOF := hide (fun W hW => reply_any y hy L a cap n hn hcap W hW)
  unfold RepIs at HOF
  have hxo : RpOk (repM y L n) := repM_ok hy hok (by omega)
  have hxl : (repM y L n).L.length = n := by show (L.take n).length = n; rw [List.length_take]; omega
  have hxe : (repM y L n).err = y.err := rfl
  have hxL : (repM y L n).L = L.take n := rfl
  have hxr : inR (repM y L n).err := hxo.err
  generalize hx : repM y L n = x at *
  have HEN := hide (fun a1 c1 W hW => rencQ k hk x hxo n hxl a1 c1 W hW)
  rw [hxL] at HEN
  have hal := alone k x hxr
  have hta := again k hk x
  have HXC := hide (fun lv => rpC_err x lv)
  rw [hxe] at hal hta HXC
  generalize outS (rencOk k x) (rencT k x) = t at *
  have HPU := hide (fun u hu => par_text k hk u hu)
  have HRQ := hide (fun z hz c => rencQ k hk z hz z.L.length rfl c)
  have HDI := hide (show (Try.prog.info? 63).map (·.size) = some (inP y (.slice a L.length cap)).size from by
    show _ = some 14
    kernel_rfl)
  have HD0 := hide (show (inP y (.slice a L.length cap))[0]? = some (.int .i64 y.err) from rfl)
  have HX0 := hide hxo
  generalize inP y (.slice a L.length cap) = D at *
  obtain ⟨hk1, hk14⟩ := hk
  have hg1 : (1 : Int) ≤ (k : Int) := by omega
  have hg2 : (k : Int) ≤ 14 := by omega
  have HK := hide (And.intro hk1 hk14)
  have XS := hide (heap_new w (.cells D 63))
  have BS := hide ((Below.refl w.heap.size w).alloc (Nat.le_refl _) (.cells D 63))
  have HIN := hide (hin.new (.cells D 63))
  generalize y.err = er at *
  have HAL := hide hal
  have HTA := hide hta
  clear hal hta hin hok hy hxo hxl hxe hxL hxr hx hk1 hk14 hn h63 hcap
  rcases nmB_two s with ⟨hb, h2⟩ | hb
  all_goals
    go_enter Try.func5, Try.ntmps5
    go_upto_region 1 with (fail)
    generalize w.alloc (.cells D 63) = w1 at *
    generalize hsb : w.heap.size = sb at XS ⊢
    have HSB := hide hsb
    clear hsb
    go_upto_region 3 with (fail)
    first
      | (have HUS := hide h2
         clear h2 hb hs
         generalize s.extract 0 300 = u at *)
      | (have HUS := hide hb
         clear hb hs
         generalize s = u at *)
    go_wp2_with (refine wpList_rowLoad rfl 63 (.tmp 3) rfl sb rfl 63 D (0, 0) _ XS.out Try.underlying63 rfl HDI.out ?_)
    refine (HOF.out _ HIN.out).mono ?_
    rintro e w2 ⟨a1, c1, rfl, hl, hb⟩
    have HNW := hide (heap_new w2 (.cells (rpC rp0 (.slice none 0 0)) 71))
    have XS2 := hide ((hb.block _ (heap_lt XS.out)).trans XS.out)
    have B2 := hide (BS.out.trans (hb.mono BS.out.size))
    have L2 := hide hl
    clear hb hl HOF HIN XS BS
    go_upto_region 4 with (first | ((with_reducible show wpList _ _ _ _ _ w2); refine wpList_theAlloc rfl 71 rfl (.pointer (some ⟨w2.heap.size, 0, none⟩)) (w2.alloc (.cells (rpC rp0 (.slice none 0 0)) 71)) (rp_alloc _) ?_) | ((with_reducible show wpList _ _ _ _ _ (World.alloc _ _)); refine wpList_rowStore rfl 71 (.tmp 8) (.tmp 26) rfl w2.heap.size rfl (rpC x (.slice a1 n c1)) rfl (rpC rp0 (.slice none 0 0)) HNW.out (rpC_info _ _) rfl (rpC_one _ _ _ _) ?_))
    rw [World.setRow_alloc_new]
    have XR := hide (heap_new w2 (.cells (rpC x (.slice a1 n c1)) 71))
    have XS3 := hide (keep_new XS2.out (heap_lt XS2.out) (.cells (rpC x (.slice a1 n c1)) 71))
    have B3 := hide (low_new B2.out (.cells (rpC x (.slice a1 n c1)) 71))
    have L3 := hide (L2.out.new (.cells (rpC x (.slice a1 n c1)) 71))
    clear XS2 B2 L2 HNW
    generalize w2.alloc (.cells (rpC x (.slice a1 n c1)) 71) = w3 at *
    generalize w2.heap.size = rb at *
    have HXR := hide (HXC.out (.slice a1 n c1))
    have HXI := hide (rpC_info x (.slice a1 n c1))
    have HENC := hide (HEN.out a1 c1)
    clear HXC HEN
    generalize rpC x (.slice a1 n c1) = C at *
    go_wp2_with (refine wpList_rowLoad rfl 71 (.tmp 8) rfl rb rfl 71 C (0, 0) _ XR.out Try.underlying71 rfl HXI.out ?_)
    refine (HENC.out _ L3.out).mono ?_
    rintro e w4 ⟨rfl, hb⟩
    have XS4 := hide ((hb.block _ (heap_lt XS3.out)).trans XS3.out)
    have XR4 := hide ((hb.block _ (heap_lt XR.out)).trans XR.out)
    have B4 := hide (B3.out.trans (hb.mono B3.out.size))
    clear hb XS3 XR B3 L3 HENC HXI
    go_upto_region 9 with (fail)
    go_cut [87] from 53 to 87 (fun c W => c = .bool false ∧ W.heap[sb]? = some (.cells D 63 (0, 0)) ∧ W.heap[rb]? = some (.cells C 71 (0, 0)) ∧ Below w.heap.size w W)
    case first =>
      have e0 : w4.cell? ⟨sb, 0, none⟩ = some (.int .i64 er) := (cell_of_block XS4.out 0).trans HD0.out
      have E0 := hide (fun N => show (w4.drewN N).cell? ⟨sb, 0, none⟩ = some (.int .i64 er) from e0)
      rcases HAL.out with ⟨h1 | h1, rfl⟩ | rfl | ⟨⟨h1, h2⟩, h3, h4⟩
      · have g1 : decide (er > 0) = false := decide_eq_false (by omega)
        have g2 : decide (er < 0) = true := decide_eq_true (by omega)
        clear HAL HTA
        go_quiet (fail)
        go_wp2
        go_meet
        exact ⟨rfl, XS4.out, XR4.out, below_drewN B4.out _⟩
      · have g1 : decide (er > 0) = true := decide_eq_true (by omega)
        have g2 : decide (er < 256) = false := decide_eq_false (by omega)
        have g3 : decide (er < 0) = false := decide_eq_false (by omega)
        have g4 : decide (er > 255) = true := decide_eq_true (by omega)
        clear HAL HTA
        go_quiet (fail)
        go_wp2
        go_meet
        exact ⟨rfl, XS4.out, XR4.out, below_drewN B4.out _⟩
      · clear HAL HTA
        go_quiet (fail)
        go_wp2
        go_meet
        exact ⟨rfl, XS4.out, XR4.out, below_drewN B4.out _⟩
      · have g1 : decide (er > 0) = true := decide_eq_true (by omega)
        have g2 : decide (er < 256) = true := decide_eq_true (by omega)
        have g3 : decide (er < 0) = false := decide_eq_false (by omega)
        have g4 : decide (er > 255) = false := decide_eq_false (by omega)
        have hpos : 0 < t.size := by omega
        have h5 := h4 hpos
        have h6 : IntKind.u8.wrap er = er := by rw [IntKind.wrap_u8]; omega
        clear HAL HTA h4
        go_quiet (fail)
        go_wp2
        go_meet
        exact ⟨rfl, XS4.out, XR4.out, below_drewN B4.out _⟩
    case rest =>
      obtain ⟨rfl, hxs, hxr, hbl⟩ := hcut
      have BC := hide hbl
      have XC := hide hxr
      clear hxs hxr hbl B4 XS4 XR4 HAL HD0
      rcases HPU.out u HUS.out with ⟨zu, hzu, hzt, hpu⟩ | hpu
      · have HPW := hide hpu
        have HEU := hide (HRQ.out zu hzu)
        rw [hzt] at HEU
        clear hpu hzu hzt HPU HUS
        rcases HTA.out with rfl | ⟨⟨htn, hts⟩, ⟨zt, hze, hzo, hzb, hpt⟩, hpx⟩
        · clear HTA HRQ
          go_wp2_with fail
          refine (HPW.out _).mono ?_
          rintro e w8 ⟨a8, c8, rfl, hl8, hb8⟩
          have HNW := hide (heap_new w8 (.cells (rpC rp0 (.slice none 0 0)) 71))
          have L8 := hide (hl8.new (.cells (rpC zu (.slice a8 zu.L.length c8)) 71))
          have B8 := hide (low_new (BC.out.trans (hb8.mono BC.out.size)) (.cells (rpC zu (.slice a8 zu.L.length c8)) 71))
          have X8 := hide (heap_new w8 (.cells (rpC zu (.slice a8 zu.L.length c8)) 71))
          clear hl8 hb8 HPW BC
          go_upto_region 19 with (first | ((with_reducible show wpList _ _ _ _ _ w8); refine wpList_theAlloc rfl 71 rfl (.pointer (some ⟨w8.heap.size, 0, none⟩)) (w8.alloc (.cells (rpC rp0 (.slice none 0 0)) 71)) (rp_alloc _) ?_) | ((with_reducible show wpList _ _ _ _ _ (World.alloc _ _)); refine wpList_rowStore rfl 71 (.tmp 17) (.tmp 125) rfl w8.heap.size rfl (rpC zu (.slice a8 zu.L.length c8)) rfl (rpC rp0 (.slice none 0 0)) HNW.out (rpC_info _ _) rfl (rpC_one _ _ _ _) ?_))
          rw [World.setRow_alloc_new]
          clear HNW
          have HEV := hide (HEU.out a8 c8)
          have HXI := hide (rpC_info zu (.slice a8 zu.L.length c8))
          clear HEU
          generalize rpC zu (.slice a8 zu.L.length c8) = CU at *
          generalize w8.alloc (.cells CU 71) = w9 at *
          generalize w8.heap.size = ub at *
          go_wp2_with fail
          refine (wakes28 _).mono ?_
          rintro e wa ⟨rfl, hba⟩
          have XA := hide ((hba.block _ (heap_lt X8.out)).trans X8.out)
          have BA := hide (B8.out.trans (hba.mono B8.out.size))
          have LA := hide (L8.out.below hba)
          clear hba X8 B8 L8
          go_wp2_with (refine wpList_rowLoadG (by kernel_rfl) 71 (.tmp 17) rfl ub rfl 71 CU (0, 0) _ XA.out Try.underlying71 rfl HXI.out ?_)
          refine (HEV.out _ LA.out).mono ?_
          rintro e wb ⟨rfl, hbb⟩
          have BB := hide (BA.out.trans (hbb.mono BA.out.size))
          clear hbb BA XA LA
          go_wp2_with fail
          go_ret
          exact ⟨rfl, BB.out⟩
        · have HPT := hide hpt
          have HTS := hide hts
          clear hts
          have HPX := hide hpx
          have HZO := hide hzo
          have HZB := hide hzb
          have HZE := hide hze
          clear hpt hpx hzo hzb hze HTA
          go_wp2_with fail
          refine (HPT.out _).mono ?_
          rintro e w5 ⟨a5, c5, rfl, hl5, hb5⟩
          have HNW := hide (heap_new w5 (.cells (rpC rp0 (.slice none 0 0)) 71))
          have L6 := hide (hl5.new (.cells (rpC zt (.slice a5 zt.L.length c5)) 71))
          have B6 := hide (low_new (BC.out.trans (hb5.mono BC.out.size)) (.cells (rpC zt (.slice a5 zt.L.length c5)) 71))
          have X6 := hide (heap_new w5 (.cells (rpC zt (.slice a5 zt.L.length c5)) 71))
          have XC5 := (hb5.block _ (heap_lt XC.out)).trans XC.out
          have XC6 := hide (keep_new XC5 (heap_lt XC5) (.cells (rpC zt (.slice a5 zt.L.length c5)) 71))
          clear hl5 hb5 HPT BC XC XC5
          go_upto_region 13 with (first | ((with_reducible show wpList _ _ _ _ _ w5); refine wpList_theAlloc rfl 71 rfl (.pointer (some ⟨w5.heap.size, 0, none⟩)) (w5.alloc (.cells (rpC rp0 (.slice none 0 0)) 71)) (rp_alloc _) ?_) | ((with_reducible show wpList _ _ _ _ _ (World.alloc _ _)); refine wpList_rowStore rfl 71 (.tmp 13) (.tmp 94) rfl w5.heap.size rfl (rpC zt (.slice a5 zt.L.length c5)) rfl (rpC rp0 (.slice none 0 0)) HNW.out (rpC_info _ _) rfl (rpC_one _ _ _ _) ?_))
          rw [World.setRow_alloc_new]
          clear HNW
          have HEV := hide (HRQ.out zt HZO.out a5 c5)
          rw [HZB.out] at HEV
          have HXI := hide (rpC_info zt (.slice a5 zt.L.length c5))
          have HTE := hide (show (rpC zt (.slice a5 zt.L.length c5))[0]? = some (.int .i64 er) from by rw [rpC_err, HZE.out])
          clear HRQ HZB HZE HZO
          generalize rpC zt (.slice a5 zt.L.length c5) = CT at *
          generalize w5.alloc (.cells CT 71) = w6 at *
          generalize w5.heap.size = tb at *
          go_wp2_with (refine wpList_rowLoadG (by kernel_rfl) 71 (.tmp 13) rfl tb rfl 71 CT (0, 0) _ X6.out Try.underlying71 rfl HXI.out ?_)
          refine (HEV.out _ L6.out).mono ?_
          rintro e w7 ⟨rfl, hb7⟩
          have e0 : w7.cell? ⟨tb, 0, none⟩ = some (.int .i64 er) := (cell_of_block ((hb7.block _ (heap_lt X6.out)).trans X6.out) 0).trans HTE.out
          have f0 : w7.cell? ⟨rb, 0, none⟩ = some (.int .i64 er) := (cell_of_block ((hb7.block _ (heap_lt XC6.out)).trans XC6.out) 0).trans HXR.out
          have B7 := hide (B6.out.trans (hb7.mono B6.out.size))
          clear hb7 B6 X6 XC6 L6 HEV HTE HXI HXR htn
          have hts : t.size ≤ 300 := HTS.out
          go_wp2_with fail
          refine (HPX.out _).mono ?_
          rintro e w7b ⟨a9, c9, rfl, hb9⟩
          have HNW := hide (heap_new w7b (.cells (rpC rp0 (.slice none 0 0)) 71))
          have BC := hide (low_new (B7.out.trans (hb9.mono B7.out.size)) (.cells (rpC rp0 (.slice a9 0 c9)) 71))
          clear hb9 HPX B7 e0 f0
          go_upto_region 16 with (first | ((with_reducible show wpList _ _ _ _ _ w7b); refine wpList_theAlloc rfl 71 rfl (.pointer (some ⟨w7b.heap.size, 0, none⟩)) (w7b.alloc (.cells (rpC rp0 (.slice none 0 0)) 71)) (rp_alloc _) ?_) | ((with_reducible show wpList _ _ _ _ _ (World.alloc _ _)); refine wpList_rowStore rfl 71 (.tmp 15) (.tmp 117) rfl w7b.heap.size rfl (rpC rp0 (.slice a9 0 c9)) rfl (rpC rp0 (.slice none 0 0)) HNW.out (rpC_info _ _) rfl (rpC_one _ _ _ _) ?_))
          rw [World.setRow_alloc_new]
          clear HNW
          generalize w7b.alloc (.cells (rpC rp0 (.slice a9 0 c9)) 71) = wz at *
          go_wp2_with fail
          refine (HPW.out _).mono ?_
          rintro e w8 ⟨a8, c8, rfl, hl8, hb8⟩
          have HNW := hide (heap_new w8 (.cells (rpC rp0 (.slice none 0 0)) 71))
          have L8 := hide (hl8.new (.cells (rpC zu (.slice a8 zu.L.length c8)) 71))
          have B8 := hide (low_new (BC.out.trans (hb8.mono BC.out.size)) (.cells (rpC zu (.slice a8 zu.L.length c8)) 71))
          have X8 := hide (heap_new w8 (.cells (rpC zu (.slice a8 zu.L.length c8)) 71))
          clear hl8 hb8 HPW BC
          go_upto_region 19 with (first | ((with_reducible show wpList _ _ _ _ _ w8); refine wpList_theAlloc rfl 71 rfl (.pointer (some ⟨w8.heap.size, 0, none⟩)) (w8.alloc (.cells (rpC rp0 (.slice none 0 0)) 71)) (rp_alloc _) ?_) | ((with_reducible show wpList _ _ _ _ _ (World.alloc _ _)); refine wpList_rowStore rfl 71 (.tmp 17) (.tmp 125) rfl w8.heap.size rfl (rpC zu (.slice a8 zu.L.length c8)) rfl (rpC rp0 (.slice none 0 0)) HNW.out (rpC_info _ _) rfl (rpC_one _ _ _ _) ?_))
          rw [World.setRow_alloc_new]
          clear HNW
          have HEV := hide (HEU.out a8 c8)
          have HXI := hide (rpC_info zu (.slice a8 zu.L.length c8))
          clear HEU
          generalize rpC zu (.slice a8 zu.L.length c8) = CU at *
          generalize w8.alloc (.cells CU 71) = w9 at *
          generalize w8.heap.size = ub at *
          go_wp2_with fail
          refine (wakes28 _).mono ?_
          rintro e wa ⟨rfl, hba⟩
          have XA := hide ((hba.block _ (heap_lt X8.out)).trans X8.out)
          have BA := hide (B8.out.trans (hba.mono B8.out.size))
          have LA := hide (L8.out.below hba)
          clear hba X8 B8 L8
          go_wp2_with (refine wpList_rowLoadG (by kernel_rfl) 71 (.tmp 17) rfl ub rfl 71 CU (0, 0) _ XA.out Try.underlying71 rfl HXI.out ?_)
          refine (HEV.out _ LA.out).mono ?_
          rintro e wb ⟨rfl, hbb⟩
          have BB := hide (BA.out.trans (hbb.mono BA.out.size))
          clear hbb BA XA LA
          go_wp2_with fail
          go_ret
          exact ⟨rfl, BB.out⟩
      · have HPW := hide hpu
        clear hpu HPU HUS
        rcases HTA.out with rfl | ⟨⟨htn, hts⟩, ⟨zt, hze, hzo, hzb, hpt⟩, hpx⟩
        · clear HTA HRQ
          go_wp2_with fail
          refine (HPW.out _).mono ?_
          rintro e w8 ⟨a8, c8, rfl, hb8⟩
          have HNW := hide (heap_new w8 (.cells (rpC rp0 (.slice none 0 0)) 71))
          have B8 := hide (low_new (BC.out.trans (hb8.mono BC.out.size)) (.cells (rpC rp0 (.slice a8 0 c8)) 71))
          clear hb8 HPW BC
          go_upto_region 19 with (first | ((with_reducible show wpList _ _ _ _ _ w8); refine wpList_theAlloc rfl 71 rfl (.pointer (some ⟨w8.heap.size, 0, none⟩)) (w8.alloc (.cells (rpC rp0 (.slice none 0 0)) 71)) (rp_alloc _) ?_) | ((with_reducible show wpList _ _ _ _ _ (World.alloc _ _)); refine wpList_rowStore rfl 71 (.tmp 17) (.tmp 125) rfl w8.heap.size rfl (rpC rp0 (.slice a8 0 c8)) rfl (rpC rp0 (.slice none 0 0)) HNW.out (rpC_info _ _) rfl (rpC_one _ _ _ _) ?_))
          rw [World.setRow_alloc_new]
          clear HNW
          generalize w8.alloc (.cells (rpC rp0 (.slice a8 0 c8)) 71) = w9 at *
          go_wp2_with fail
          refine (wakes28 _).mono ?_
          rintro e wa ⟨rfl, hba⟩
          have BA := hide (B8.out.trans (hba.mono B8.out.size))
          clear hba B8
          go_wp2_with fail
          go_ret
          exact ⟨rfl, BA.out⟩
        · have HPT := hide hpt
          have HTS := hide hts
          clear hts
          have HPX := hide hpx
          have HZO := hide hzo
          have HZB := hide hzb
          have HZE := hide hze
          clear hpt hpx hzo hzb hze HTA
          go_wp2_with fail
          refine (HPT.out _).mono ?_
          rintro e w5 ⟨a5, c5, rfl, hl5, hb5⟩
          have HNW := hide (heap_new w5 (.cells (rpC rp0 (.slice none 0 0)) 71))
          have L6 := hide (hl5.new (.cells (rpC zt (.slice a5 zt.L.length c5)) 71))
          have B6 := hide (low_new (BC.out.trans (hb5.mono BC.out.size)) (.cells (rpC zt (.slice a5 zt.L.length c5)) 71))
          have X6 := hide (heap_new w5 (.cells (rpC zt (.slice a5 zt.L.length c5)) 71))
          have XC5 := (hb5.block _ (heap_lt XC.out)).trans XC.out
          have XC6 := hide (keep_new XC5 (heap_lt XC5) (.cells (rpC zt (.slice a5 zt.L.length c5)) 71))
          clear hl5 hb5 HPT BC XC XC5
          go_upto_region 13 with (first | ((with_reducible show wpList _ _ _ _ _ w5); refine wpList_theAlloc rfl 71 rfl (.pointer (some ⟨w5.heap.size, 0, none⟩)) (w5.alloc (.cells (rpC rp0 (.slice none 0 0)) 71)) (rp_alloc _) ?_) | ((with_reducible show wpList _ _ _ _ _ (World.alloc _ _)); refine wpList_rowStore rfl 71 (.tmp 13) (.tmp 94) rfl w5.heap.size rfl (rpC zt (.slice a5 zt.L.length c5)) rfl (rpC rp0 (.slice none 0 0)) HNW.out (rpC_info _ _) rfl (rpC_one _ _ _ _) ?_))
          rw [World.setRow_alloc_new]
          clear HNW
          have HEV := hide (HRQ.out zt HZO.out a5 c5)
          rw [HZB.out] at HEV
          have HXI := hide (rpC_info zt (.slice a5 zt.L.length c5))
          have HTE := hide (show (rpC zt (.slice a5 zt.L.length c5))[0]? = some (.int .i64 er) from by rw [rpC_err, HZE.out])
          clear HRQ HZB HZE HZO
          generalize rpC zt (.slice a5 zt.L.length c5) = CT at *
          generalize w5.alloc (.cells CT 71) = w6 at *
          generalize w5.heap.size = tb at *
          go_wp2_with (refine wpList_rowLoadG (by kernel_rfl) 71 (.tmp 13) rfl tb rfl 71 CT (0, 0) _ X6.out Try.underlying71 rfl HXI.out ?_)
          refine (HEV.out _ L6.out).mono ?_
          rintro e w7 ⟨rfl, hb7⟩
          have e0 : w7.cell? ⟨tb, 0, none⟩ = some (.int .i64 er) := (cell_of_block ((hb7.block _ (heap_lt X6.out)).trans X6.out) 0).trans HTE.out
          have f0 : w7.cell? ⟨rb, 0, none⟩ = some (.int .i64 er) := (cell_of_block ((hb7.block _ (heap_lt XC6.out)).trans XC6.out) 0).trans HXR.out
          have B7 := hide (B6.out.trans (hb7.mono B6.out.size))
          clear hb7 B6 X6 XC6 L6 HEV HTE HXI HXR htn
          have hts : t.size ≤ 300 := HTS.out
          go_wp2_with fail
          refine (HPX.out _).mono ?_
          rintro e w7b ⟨a9, c9, rfl, hb9⟩
          have HNW := hide (heap_new w7b (.cells (rpC rp0 (.slice none 0 0)) 71))
          have BC := hide (low_new (B7.out.trans (hb9.mono B7.out.size)) (.cells (rpC rp0 (.slice a9 0 c9)) 71))
          clear hb9 HPX B7 e0 f0
          go_upto_region 16 with (first | ((with_reducible show wpList _ _ _ _ _ w7b); refine wpList_theAlloc rfl 71 rfl (.pointer (some ⟨w7b.heap.size, 0, none⟩)) (w7b.alloc (.cells (rpC rp0 (.slice none 0 0)) 71)) (rp_alloc _) ?_) | ((with_reducible show wpList _ _ _ _ _ (World.alloc _ _)); refine wpList_rowStore rfl 71 (.tmp 15) (.tmp 117) rfl w7b.heap.size rfl (rpC rp0 (.slice a9 0 c9)) rfl (rpC rp0 (.slice none 0 0)) HNW.out (rpC_info _ _) rfl (rpC_one _ _ _ _) ?_))
          rw [World.setRow_alloc_new]
          clear HNW
          generalize w7b.alloc (.cells (rpC rp0 (.slice a9 0 c9)) 71) = wz at *
          go_wp2_with fail
          refine (HPW.out _).mono ?_
          rintro e w8 ⟨a8, c8, rfl, hb8⟩
          have HNW := hide (heap_new w8 (.cells (rpC rp0 (.slice none 0 0)) 71))
          have B8 := hide (low_new (BC.out.trans (hb8.mono BC.out.size)) (.cells (rpC rp0 (.slice a8 0 c8)) 71))
          clear hb8 HPW BC
          go_upto_region 19 with (first | ((with_reducible show wpList _ _ _ _ _ w8); refine wpList_theAlloc rfl 71 rfl (.pointer (some ⟨w8.heap.size, 0, none⟩)) (w8.alloc (.cells (rpC rp0 (.slice none 0 0)) 71)) (rp_alloc _) ?_) | ((with_reducible show wpList _ _ _ _ _ (World.alloc _ _)); refine wpList_rowStore rfl 71 (.tmp 17) (.tmp 125) rfl w8.heap.size rfl (rpC rp0 (.slice a8 0 c8)) rfl (rpC rp0 (.slice none 0 0)) HNW.out (rpC_info _ _) rfl (rpC_one _ _ _ _) ?_))
          rw [World.setRow_alloc_new]
          clear HNW
          generalize w8.alloc (.cells (rpC rp0 (.slice a8 0 c8)) 71) = w9 at *
          go_wp2_with fail
          refine (wakes28 _).mono ?_
          rintro e wa ⟨rfl, hba⟩
          have BA := hide (B8.out.trans (hba.mono B8.out.size))
          clear hba B8
          go_wp2_with fail
          go_ret
          exact ⟨rfl, BA.out⟩
set_option maxRecDepth 100000 in
set_option maxHeartbeats 2000000 in
theorem reqReplies_bad (y : InP) (hy : InPOk y) (a : Option Addr) (L : List LnM) (cap : Nat) (hcap : L.length ≤ cap) (h63 : L.length ≤ 9223372036854775807) (k : Int) (hk : 0 ≤ k ∧ k ≤ 255) (hbad : k < 1 ∨ 14 < k) (s : ByteArray) (hs : s.size ≤ 9223372036854775807) (w : World) (hin : LnIn w a L) (hok : ∀ x ∈ L, LnOk x) :
    Calls Try.prog 5 #[.agg (inP y (.slice a L.length cap)), .int .u8 k, .string s] w fun e w' => e = .returned (.bool true) ∧ Below w.heap.size w w' := by
  obtain ⟨n, hn⟩ : ∃ n, min L.length 10 = n := ⟨_, rfl⟩
  have HOF := hide (fun W hW => reply_any y hy L a cap n hn hcap W hW)
  unfold RepIs at HOF
  generalize hx : repM y L n = x at *
  have HEN := hide (fun lv W => renc_bad k hk hbad x lv W)
  have HPU := hide (fun u W => par_bad k hk hbad u W)
  have HDI := hide (show (Try.prog.info? 63).map (·.size) = some (inP y (.slice a L.length cap)).size from by
    show _ = some 14
    kernel_rfl)
  generalize inP y (.slice a L.length cap) = D at *
  have hg1 : k < 1 ∨ (¬ k < 1 ∧ 14 < k) := by omega
  have XS := hide (heap_new w (.cells D 63))
  have BS := hide ((Below.refl w.heap.size w).alloc (Nat.le_refl _) (.cells D 63))
  have HIN := hide (hin.new (.cells D 63))
  clear hin hok hy hx hn h63 hcap hbad
  have hsz : 300 < s.size ∨ s.size ≤ 300 := by omega
  rcases hsz with hb | hb
  all_goals
    go_enter Try.func5, Try.ntmps5
    go_upto_region 1 with (fail)
    generalize w.alloc (.cells D 63) = w1 at *
    generalize hsb : w.heap.size = sb at XS ⊢
    have HSB := hide hsb
    clear hsb
    go_upto_region 3 with (fail)
    clear hb hs
    go_wp2_with (refine wpList_rowLoad rfl 63 (.tmp 3) rfl sb rfl 63 D (0, 0) _ XS.out Try.underlying63 rfl HDI.out ?_)
    refine (HOF.out _ HIN.out).mono ?_
    rintro e w2 ⟨a1, c1, rfl, hl, hb⟩
    have HNW := hide (heap_new w2 (.cells (rpC rp0 (.slice none 0 0)) 71))
    have B3 := hide (low_new (BS.out.trans (hb.mono BS.out.size)) (.cells (rpC x (.slice a1 n c1)) 71))
    clear hb hl HOF HIN BS
    go_upto_region 4 with (first | ((with_reducible show wpList _ _ _ _ _ w2); refine wpList_theAlloc rfl 71 rfl (.pointer (some ⟨w2.heap.size, 0, none⟩)) (w2.alloc (.cells (rpC rp0 (.slice none 0 0)) 71)) (rp_alloc _) ?_) | ((with_reducible show wpList _ _ _ _ _ (World.alloc _ _)); refine wpList_rowStore rfl 71 (.tmp 8) (.tmp 26) rfl w2.heap.size rfl (rpC x (.slice a1 n c1)) rfl (rpC rp0 (.slice none 0 0)) HNW.out (rpC_info _ _) rfl (rpC_one _ _ _ _) ?_))
    rw [World.setRow_alloc_new]
    have XR := hide (heap_new w2 (.cells (rpC x (.slice a1 n c1)) 71))
    clear HNW
    have HXI := hide (rpC_info x (.slice a1 n c1))
    have HENC := hide (HEN.out (.slice a1 n c1))
    clear HEN
    generalize rpC x (.slice a1 n c1) = C at *
    generalize w2.alloc (.cells C 71) = w3 at *
    generalize w2.heap.size = rb at *
    go_wp2_with (refine wpList_rowLoad rfl 71 (.tmp 8) rfl rb rfl 71 C (0, 0) _ XR.out Try.underlying71 rfl HXI.out ?_)
    refine (HENC.out _).mono ?_
    rintro e w4 ⟨rfl, hb⟩
    have B4 := hide (B3.out.trans (hb.mono B3.out.size))
    clear hb XR B3 HENC HXI XS
    have hg2 : k < 1 ∨ (decide (k ≤ 14) = false ∧ 1 ≤ k) := hg1.elim Or.inl fun h => Or.inr ⟨decide_eq_false (by omega), by omega⟩
    clear hg1
    rcases hg2 with h1 | ⟨h1, h2⟩
    all_goals
      go_wp2_with fail
      refine (HPU.out _ _).mono ?_
      rintro e w5 ⟨rfl, hb⟩
      have HNW := hide (heap_new w5 (.cells (rpC rp0 (.slice none 0 0)) 71))
      have B6 := hide (low_new (B4.out.trans (hb.mono B4.out.size)) (.cells (rpC rp0 (.slice none 0 0)) 71))
      clear hb B4 HPU
      go_upto_region 8 with (first | ((with_reducible show wpList _ _ _ _ _ w5); refine wpList_theAlloc rfl 71 rfl (.pointer (some ⟨w5.heap.size, 0, none⟩)) (w5.alloc (.cells (rpC rp0 (.slice none 0 0)) 71)) (rp_alloc _) ?_) | ((with_reducible show wpList _ _ _ _ _ (World.alloc _ _)); refine wpList_rowStore rfl 71 (.tmp 11) (.tmp 42) rfl w5.heap.size rfl (rpC rp0 (.slice none 0 0)) rfl (rpC rp0 (.slice none 0 0)) HNW.out (rpC_info _ _) rfl (rpC_one _ _ _ _) ?_))
      rw [World.setRow_alloc_new]
      clear HNW
      generalize w5.alloc (.cells (rpC rp0 (.slice none 0 0)) 71) = w6 at *
      go_wp2_with fail
      refine (wakes28 _).mono ?_
      rintro e w7 ⟨rfl, hb⟩
      have B7 := hide (B6.out.trans (hb.mono B6.out.size))
      clear hb B6
      go_wp2_with fail
      go_ret
      exact ⟨rfl, B7.out⟩
theorem reqReplies_walk (y : InP) (hy : InPOk y) (a : Option Addr) (L : List LnM) (cap : Nat) (hcap : L.length ≤ cap) (h63 : L.length ≤ 9223372036854775807) (k : Int) (hk0 : 0 ≤ k) (hk1 : k ≤ 255) (s : ByteArray) (hs : s.size ≤ 9223372036854775807) (w : World) (hin : LnIn w a L) (hok : ∀ x ∈ L, LnOk x) :
    Calls Try.prog 5 #[.agg (inP y (.slice a L.length cap)), .int .u8 k, .string s] w fun e w' => e = .returned (.bool true) ∧ Below w.heap.size w w' := by
  by_cases h : 1 ≤ k ∧ k ≤ 14
  · obtain ⟨m, rfl⟩ : ∃ m : Nat, k = m := ⟨k.toNat, by omega⟩
    exact reqReplies_good y hy a L cap hcap h63 m (by omega) s hs w hin hok
  · exact reqReplies_bad y hy a L cap hcap h63 k ⟨hk0, hk1⟩ (by omega) s hs w hin hok

set_option maxRecDepth 100000 in
theorem reqReplies_lifted (os : Os) (started : os.Started) (H : Type) (enc : TypeId × Value → H) :
    ReturnsInHanded {} Try.checked os 5 .any (Rows.reqRepliesSpec.pre6 enc Try.prog Try.f5 Rows.reqRepliesRow.domain false) (Rows.reqRepliesSpec.post enc Try.prog Try.f5 false true false false) := by
  refine returnsInHanded_of_change (C := Try.checked) own started (by kernel_rfl) Try.func5
    (ChangeSpec.witness6 (enc := enc) (C := Try.checked) false ⟨#[], #[.agg #[.int .i64 0, .int .i64 0, .int .i64 0, .int .i64 0, .int .i64 0, .int .i64 0, .int .i64 0, .int .i64 0, .int .i64 0, .int .i64 0, .int .i64 0, .int .i64 0, .bool false, .slice none 0 0], .int .u8 0, .string ⟨#[]⟩], []⟩ 8 (by kernel_rfl) (by kernel_rfl) (by kernel_rfl) (by kernel_rfl)) ?_
  intro W base args ds gs before hval0 hW _ _
  have hval : ∀ (j : Nat) t v, Try.f5.params[j]? = some t → args[j]? = some v → Value.okWide Try.prog W .any base t v := hval0
  have hW' := hW
  obtain ⟨p, q, hA0, hV, rfl, hfz, hnd⟩ := hW
  have hA : DataW.TrodAll enc Try.prog W 0 (fun _ => true) true Try.f5.params.toList args.toList ds p := hA0
  rw [Try.params5] at hA hval
  obtain ⟨v0, vs0, d0, ds0, p0, q0, hargs, rfl, rfl, h0, r0⟩ := trodAll_cons hA
  obtain ⟨v1, vs1, d1, ds1, p1, q1, rfl, rfl, rfl, h1, r1⟩ := trodAll_cons r0
  obtain ⟨v2, vs2, d2, ds2, p2, q2, rfl, rfl, rfl, h2, r2⟩ := trodAll_cons r1
  obtain ⟨rfl, rfl, rfl⟩ := trodAll_nil r2
  obtain rfl : args = #[v0, v1, v2] := by cases args; simp_all
  obtain ⟨rfl, rfl⟩ := trodVars_none hV
  obtain ⟨y, a, L, cap, rfl, hy, hc, h63, hin, hok⟩ := open_reply (hval 0 63 v0 rfl rfl) h0
  obtain ⟨k, rfl, rfl, rfl, w1⟩ := open_int Try.underlying5 (hval 1 5 v1 rfl rfl) h1
  have z1 := wf_u8 w1
  obtain ⟨s, rfl, rfl, rfl, w2⟩ := ChangeMaps.open_string Try.underlying9 (hval 2 9 v2 rfl rfl) h2
  have z2 : s.size ≤ 9223372036854775807 := w2
  clear hA0 hval0
  refine (reqReplies_walk y hy a L cap hc h63 k z1.1 z1.2 s z2 W hin hok).mono fun e W' ⟨he, hb⟩ => ?_
  subst he
  exact ⟨_, rfl, post_law laidOut (of_decide_eq_true (by kernel_rfl)) rfl rfl Try.underlying4 hW' ⟨rfl, rfl, rfl⟩ hb⟩

/-- THE STATEMENT -/
theorem reqReplies_holds : Rows.ReqRepliesSaid :=
  OpenClaim.holds_of_wide 5 Try.f5 rfl rfl rfl rfl rfl rfl rfl ⟨rfl, rfl, rfl, rfl, rfl⟩ rfl rfl rfl rfl rfl (by kernel_rfl) Try.func5 (by kernel_rfl)
    (of_decide_eq_true (by kernel_rfl)) (by unfold Func.isWrapper; first | (rw [if_pos (by decide +kernel)]; kernel_rfl) | (rw [if_neg (by decide +kernel)]; exact ⟨rfl, rfl⟩))
    (fun os started H enc _ => reqReplies_lifted os started H enc)

end Go.Proofs.Ytkbikflincjhhaa
