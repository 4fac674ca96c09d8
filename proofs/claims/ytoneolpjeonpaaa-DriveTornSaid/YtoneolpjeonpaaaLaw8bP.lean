/-
  Wherever the power is cut, nothing is known to be programmable then, what was programmed ahead of that elsewhere reads as it was, and what is torn is no tag's (P8.2, P8.3): for every number of a logical page and every place of the cut.
-/
import Derived.Test.YtoneolpjeonpaaaPk14
namespace Go.Proofs.Ytoneolpjeonpaaa
set_option linter.unusedSimpArgs false
set_option linter.unusedVariables false
open Go.RowKit Go.WideShapes Go.ChangeShapes Go.ChangeAt Go.Deep
def tK0 : List KnM := List.replicate 4 ⟨false, -1⟩
def tKa : List KnM := tK0.set 0 ⟨false, 0⟩
def tKb : List KnM := tKa.set 1 ⟨false, 0⟩
def tK (x : Int) : List KnM := [⟨false, 1⟩, ⟨false, x⟩, ⟨false, -1⟩, ⟨false, -1⟩]
theorem tK_step (x y : Int) : (tK x).set 1 ⟨false, y⟩ = tK y := rfl
theorem tK_learn (x : Int) : learnK (tK x) 1 9 = tK0 := rfl
/-- the two of the loop: m programs went well, or the power is gone -/
def TornAt (W : World) (d b p q B : Nat) (G : Nat → Nat) (f bf s b2 : ByteArray) (c m : Nat) (x : Value) : Prop :=
  (m ≤ c ∧ x = .int .i64 (m : Int) ∧ DriveAt W d b p q B G (tP f bf s b2 c m) (tK (m : Int))) ∨ (c < m ∧ x = .int .i64 (c : Int) ∧ DriveAt W d b p q B G (tP f bf s b2 c (c + 1)) tK0)
set_option maxRecDepth 100000 in
set_option maxHeartbeats 1000000 in
theorem driveTorn_walk (n : Int) (n0 : 0 ≤ n) (n1 : n ≤ 255) (cut : Int) (c0 : 0 ≤ cut) (c1 : cut ≤ 255) (w : World) :
    Calls Try.prog 4 #[.int .u8 n, .int .u8 cut] w fun e w' => e = .returned (.bool true) ∧ Below w.heap.size w w' := by
  obtain ⟨c, hc⟩ : ∃ c : Nat, cut % 4 = (c : Int) := ⟨(cut % 4).toNat, by omega⟩
  have hc4 : c < 4 := by omega
  have HNEW := hide (fun W => new_go 4 4 32 (by decide) [] (.slice none 0 0) W (Or.inl ⟨rfl, rfl⟩) (by decide))
  have HD := hide (fun p q B G W (hW : NandAt W p q B G tS0) => dnew_go W hW)
  have HFF := hide (fun W => full8_any ⟨#[102, 105, 114, 115, 116]⟩ (by decide) 32 (by decide) W)
  have HFS := hide (fun W => full8_any ⟨#[115, 101, 99, 111, 110, 100]⟩ (by decide) 32 (by decide) W)
  obtain ⟨tf, htf, hlf⟩ : ∃ td : List UInt8, fullB ⟨#[102, 105, 114, 115, 116]⟩ 32 = bs td ∧ td.length = 32 := ⟨(fullB ⟨#[102, 105, 114, 115, 116]⟩ 32).data.toList, rfl, by rw [size_list]; exact fullB_size _ _⟩
  obtain ⟨ts, hts, hls⟩ : ∃ td : List UInt8, fullB ⟨#[115, 101, 99, 111, 110, 100]⟩ 32 = bs td ∧ td.length = 32 := ⟨(fullB ⟨#[115, 101, 99, 111, 110, 100]⟩ 32).data.toList, rfl, by rw [size_list]; exact fullB_size _ _⟩
  rw [htf] at HFF
  rw [hts] at HFS
  have hT : TagOk 1 n 0 1 := by unfold TagOk; omega
  have HE0 := hide (fun d b p q B G B0 W (hB : B0 ≤ B ∧ B0 ≤ b) (hW : DriveAt W d b p q B G tS0 tK0) => derase_ok B0 0 (by decide) hB (by decide) ts_ok0 ts_few0 ts_er0 ts_dims0 W hW)
  have HE1 := hide (fun d b p q B G B0 W (hB : B0 ≤ B ∧ B0 ≤ b) (hW : DriveAt W d b p q B G tS1 tKa) => derase_ok B0 1 (by decide) hB (by decide) ts_ok1 ts_few1 ts_er1 ts_dims1 W hW)
  obtain ⟨bf, hbf⟩ : ∃ bf, bf = bs (frameL 1 n 1 0 1 tf) := ⟨_, rfl⟩
  obtain ⟨b2, hb2⟩ : ∃ b2, b2 = bs (frameL 1 n 1 0 1 ts) := ⟨_, rfl⟩
  have hbfz : bf.size = 32 := by rw [hbf]; exact frameL_length _ _ _ _ _ _
  have hb2z : b2.size = 32 := by rw [hb2]; exact frameL_length _ _ _ _ _ _
  have hpr1 := ts_pr (bs tf) bf hlf hbfz
  have HP1 := hide (fun d b p q B G B0 W (hB : B0 ≤ B ∧ B0 ≤ b) (hW : DriveAt W d b p q B G tS2 tKb) => dprog_ok B0 0 0 (by decide) hB (by decide) (by decide +kernel) (by decide +kernel) 1 n 1 0 1 hT (by decide) (by decide) tf (by rw [hlf]; decide +kernel) (by decide +kernel) ts_ok2 (by rw [← hbf]; exact congrArg Prod.snd hpr1) (by rw [← hbf, hpr1]; exact ts_dims2 _ _) W hW)
  rw [← hbf, hpr1] at HP1
  have hfin := tp_next (bs tf) bf (bs ts) b2 c c hc4 (Nat.le_refl _)
  have HP2 := hide (fun (m : Nat) (hm : m < c) d b p q B G B0 W (hB : B0 ≤ B ∧ B0 ≤ b) (hW : DriveAt W d b p q B G (tP (bs tf) bf (bs ts) b2 c m) (tK (m : Int))) => by
    have hd := tp_dims (bs tf) bf (bs ts) b2 c m hc4 (by omega)
    have hn := tp_next (bs tf) bf (bs ts) b2 c m hc4 (by omega)
    have hp := tp_pr (bs tf) bf (bs ts) b2 hls hb2z c m hc4 (by omega)
    rw [if_neg (by omega)] at hp
    have := dprog_ok B0 1 m (by show 1 < 4; decide) hB rfl (by unfold nextK; rw [hd.2.2.2]; rfl) (by rw [hd.2.1]; omega) 1 n 1 0 1 hT (by decide) (by decide) ts (by rw [hls, hd.2.2.1]) (by rw [hd.2.2.1]; decide) (tp_ok _ _ _ _ c m hc4 (by omega)) (by rw [← hb2, hp]) (by rw [← hb2, hp]; exact ⟨hn.1.trans hd.1.symm, hn.2.1.trans hd.2.1.symm, hn.2.2.1.trans hd.2.2.1.symm⟩) W hW
    rw [← hb2, hp, tK_step] at this
    exact this)
  have HPE := hide (fun d b p q B G B0 W (hB : B0 ≤ B ∧ B0 ≤ b) (hW : DriveAt W d b p q B G (tP (bs tf) bf (bs ts) b2 c c) (tK (c : Int))) => by
    have hd := tp_dims (bs tf) bf (bs ts) b2 c c hc4 (by omega)
    have hp := tp_pr (bs tf) bf (bs ts) b2 hls hb2z c c hc4 (by omega)
    rw [if_pos rfl] at hp
    have := dprog_err 9 (by decide) B0 1 c (by show 1 < 4; decide) hB rfl (by unfold nextK; rw [hd.2.2.2]; rfl) (by rw [hd.2.1]; omega) 1 n 1 0 1 hT (by decide) (by decide) ts (by rw [hls, hd.2.2.1]) (by rw [hd.2.2.1]; decide) (tp_ok _ _ _ _ c c hc4 (by omega)) (by rw [← hb2, hp]) (by rw [← hb2, hp]; exact ⟨hfin.1.trans hd.1.symm, hfin.2.1.trans hd.2.1.symm, hfin.2.2.1.trans hd.2.2.1.symm⟩) W hW
    rw [← hb2, hp, tK_learn] at this
    exact this)
  have HPX := hide (fun d b p q B G W (hW : DriveAt W d b p q B G (tP (bs tf) bf (bs ts) b2 c (c + 1)) tK0) => dprog_order 0 1 (by decide) (by decide) (by unfold nextK; rw [hfin.2.2.2]; rfl) 1 n 1 0 1 hT (bs ts) (show (bs ts).size = _ by rw [bs_size, hls, hfin.2.2.1]) (by rw [hfin.2.2.1]; decide) W hW)
  have HNX := hide (fun (k : Nat) (hk : k < 4) d b p q B G W (hW : DriveAt W d b p q B G (tP (bs tf) bf (bs ts) b2 c (c + 1)) tK0) => by
    have := dnext_yes k (show k < tK0.length from hk) W hW
    rwa [show nextK (tP (bs tf) bf (bs ts) b2 c (c + 1)) tK0 k = -1 by unfold nextK; rw [hfin.2.2.2]; rfl] at this)
  have HOF := hide (fun p q B G W (hW : NandAt W p q B G (tP (bs tf) bf (bs ts) b2 c (c + 1))) => off_any p q B G _ W hW)
  rw [hfin.2.2.2] at HOF
  have HFU := hide (fun p q B G W z (hz : z = 1 + (c : Int)) (hW : NandAt W p q B G (progS tS2 0 0 (bs tf) bf)) => by
    have := fuse_any p q B G _ z ⟨#[254, 255, 253]⟩ W hW
    rw [show (max 0 z) = 1 + (c : Int) by omega] at this
    exact this)
  have HON := hide (fun p q B G W (hW : NandAt W p q B G (tP (bs tf) bf (bs ts) b2 c (c + 1))) => on_any p q B G _ W hW)
  have hr0 := tx_read0 (bs tf) bf (bs ts) b2 c hc4
  have hr1 := tx_read1 (bs tf) bf (bs ts) b2 c hc4
  have HXD := hide (tx_dims (bs tf) bf (bs ts) b2 c hc4)
  have HR0 := hide (fun d b p q B G W (hW : DriveAt W d b p q B G (tX (bs tf) bf (bs ts) b2 c) tK0) => dread_tag 0 0 1 n 1 0 1 hT (by decide) (by decide) tf (by omega) hr0.1 (by rw [← hbf]; exact hr0.2) W hW)
  obtain ⟨st, hst, HR1⟩ : ∃ st : Int, (st = 2 ∨ st = 3) ∧ Hid (∀ d b p q B G W (hW : DriveAt W d b p q B G (tX (bs tf) bf (bs ts) b2 c) tK0), Calls Try.prog 7 #[.pointer (some ⟨d, 0, none⟩), .int .i64 1, .int .i64 (c : Int)] W fun e w' => e = .returned (.tuple #[.agg (pageC st 0 0 0 0 0 (bs tornD)), .int .i64 0]) ∧ Below W.heap.size W w') := by
    by_cases h0 : c = 0
    · exact ⟨3, Or.inr rfl, hide (fun d b p q B G W hW => dread_fact 1 (c : Int) tornD tornB torn_len.1 torn_len.2 hr1.1 hr1.2 torn_tag torn_blank (by omega) torn_fact W hW)⟩
    · exact ⟨2, Or.inl rfl, hide (fun d b p q B G W hW => dread_far 1 (c : Int) tornD tornB torn_len.1 torn_len.2 hr1.1 hr1.2 torn_tag torn_blank (by omega) W hW)⟩
  unfold pageC at HR0 HR1
  have hs1 : (st != 4) = true := by rcases hst with rfl | rfl <;> rfl
  have hs2 : (st != 1) = true := by rcases hst with rfl | rfl <;> rfl
  have HDF := hide (show DimsSame (progS tS2 0 0 (bs tf) bf) (tP (bs tf) bf (bs ts) b2 c 0) from ⟨rfl, rfl, rfl⟩)
  have HTP0 := hide (show ({ progS tS2 0 0 (bs tf) bf with fuse := 1 + (c : Int), torn := ⟨#[254, 255, 253]⟩ } : ChipM) = tP (bs tf) bf (bs ts) b2 c 0 from rfl)
  clear hpr1 hfin hr0 hr1 hbf hb2 hbfz hb2z hlf hls htf hts hT hst
  generalize bs tornD = tt at *
  generalize bs tf = f at *
  generalize bs ts = s at *
  have HC := hide hc
  clear hc
  have hw1 : IntKind.i64.wrap n = n := by rw [IntKind.wrap_i64]; omega
  go_enter Try.func4, Try.ntmps4
  go_wp2_with fail
  refine (HNEW.out _).mono ?_
  rintro e w1 ⟨p, q, G, rfl, hn, hb⟩
  have HN := hide (show NandAt w1 p q w.heap.size G tS0 from hn)
  have hb := hide hb
  clear hn HNEW
  go_wp2_with fail
  refine (HD.out _ _ _ _ _ HN.out).mono ?_
  rintro e w2 ⟨d, b, rfl, hd, hb2, h1, h2⟩
  have HBB := hide (show w.heap.size ≤ w.heap.size ∧ w.heap.size ≤ b from ⟨Nat.le_refl _, Nat.le_trans hb.out.size h1⟩)
  have T2 := hide (TurnD.of_below (hb.out.trans (hb2.mono hb.out.size)) (Nat.le_refl _))
  have H2 := hide (show DriveAt w2 d b p q w.heap.size G tS0 tK0 from hd)
  clear hd hb hb2 h1 h2 HD HN
  go_wp2_with fail
  refine (wakes8 _).mono ?_
  rintro e w3 ⟨rfl, hb⟩
  have H3 := hide (H2.out.below hb)
  have T3 := hide (T2.out.trans (TurnD.of_below hb T2.out.1.size))
  clear H2 T2 hb
  go_wp2_with fail
  refine (HE0.out _ _ _ _ _ _ w.heap.size _ HBB.out H3.out).mono ?_
  rintro e w4 ⟨rfl, hd, ht⟩
  have H4 := hide (show DriveAt w4 d b p q w.heap.size G tS1 tKa from hd)
  have T4 := hide (T3.out.trans ht)
  clear hd ht H3 T3 HE0
  go_wp2_with fail
  refine (HE1.out _ _ _ _ _ _ w.heap.size _ HBB.out H4.out).mono ?_
  rintro e w4' ⟨rfl, hd, ht⟩
  have H2 := hide (show DriveAt w4' d b p q w.heap.size G tS2 tKb from hd)
  have T2 := hide (T4.out.trans ht)
  clear hd ht H4 T4 HE1
  go_upto_region 6 with (fail)
  have hal := (Below.refl w4'.heap.size w4').alloc (Nat.le_refl _) (.cells #[.int .u8 1, .int .i64 n, .int .u64 1, .int .i64 0, .int .i64 1] 31)
  have X0 := hide (heap_new w4' (.cells #[.int .u8 1, .int .i64 n, .int .u64 1, .int .i64 0, .int .i64 1] 31))
  have H0 := hide (H2.out.below hal).drew
  have T0 := hide ((T2.out.trans (TurnD.of_below hal T2.out.1.size)).drew)
  clear hal H2 T2
  generalize w4'.alloc (.cells #[.int .u8 1, .int .i64 n, .int .u64 1, .int .i64 0, .int .i64 1] 31) = w5 at *
  generalize w4'.heap.size = tb at *
  have X0 := hide (show w5.drew.heap[tb]? = _ from X0.out)
  refine wp_region_held_drew (S := (fun W => W.heap[tb]? = some (.cells #[.int .u8 1, .int .i64 n, .int .u64 1, .int .i64 0, .int .i64 1] 31 (0, 0)))) (by kernel_rfl) (X0.out) (fun hHeld => ?_)
  generalize w5.drew = v0 at *
  refine wpAnyH_take (i := 0) (oi := { dst := some 53, op := Op.move (Operand.tmp 7), type := 22, pos := "law.go:258", after := #[], guard := none }) (v := ?_) rfl (by kernel_rfl) (by kernel_rfl) (by kernel_rfl) (fun _ _ _ h => h) (Or.inl ⟨by kernel_rfl, ?_⟩) hHeld ?_
  rotate_left
  · (intro w hSw; (try dsimp only at hSw); have e0 := cell_of_block hSw 0; have e1 := cell_of_block hSw 1; have e2 := cell_of_block hSw 2; have e3 := cell_of_block hSw 3; have e4 := cell_of_block hSw 4; go_simp); try with_reducible rfl
  try simp only [Act.put, List.setIfInBounds_toArray, List.set_cons_zero, List.set_cons_succ]
  refine wpAnyH_take (i := 1) (oi := { dst := some 54, op := Op.load 31 (Operand.tmp 9), type := 31, pos := "law.go:258", after := #[], guard := none }) (v := ?_) rfl (by kernel_rfl) (by kernel_rfl) (by kernel_rfl) (fun _ _ _ h => h) (Or.inl ⟨by kernel_rfl, ?_⟩) hHeld ?_
  rotate_left
  · (intro w hSw; (try dsimp only at hSw); have e0 := cell_of_block hSw 0; have e1 := cell_of_block hSw 1; have e2 := cell_of_block hSw 2; have e3 := cell_of_block hSw 3; have e4 := cell_of_block hSw 4; go_simp); try with_reducible rfl
  try simp only [Act.put, List.setIfInBounds_toArray, List.set_cons_zero, List.set_cons_succ]
  refine wpAnyH_ready (rs := [2]) (by kernel_rfl) (by simp) (AllReadyH.cons (o := { dst := some 55, op := Op.call { callee := Callee.value (Operand.func 15), args := #[Operand.const (Value.string { data := #[102, 105, 114, 115, 116] }), Operand.const (Value.int IntKind.i64 32)], argTypes := #[9, 3] }, type := 9, pos := "law.go:258", after := #[], guard := none }) rfl (fun K hK => ?_) AllReadyH.nil)
  have hOld := hide hHeld
  clear hHeld
  go_simp
  refine (HFF.out _).mono ?_
  rintro e v2 ⟨rfl, hb⟩
  have H2 := hide (H0.out.below hb)
  have X2 := hide ((hb.block _ (heap_lt X0.out)).trans X0.out)
  have T2 := hide (T0.out.trans (TurnD.of_below hb T0.out.1.size))
  clear hb
  (try go_wp2_with fail)
  refine hK.out _ _ (X2.out) (fun hHeld => ?_)
  clear hK K hOld
  try simp only [Act.put, List.setIfInBounds_toArray, List.set_cons_zero, List.set_cons_succ]
  refine wpAnyH_ready (rs := [3]) (by kernel_rfl) (by simp) (AllReadyH.cons (o := { dst := some 56, op := Op.call { callee := Callee.value (Operand.func 8), args := #[Operand.tmp 53, Operand.const (Value.int IntKind.i64 0), Operand.tmp 54, Operand.tmp 55], argTypes := #[22, 3, 31, 9] }, type := 36, pos := "law.go:258", after := #[{ on := 0, ground := Ground.data }, { on := 1, ground := Ground.data }, { on := 2, ground := Ground.data }, { on := 2, ground := Ground.chain }], guard := none }) rfl (fun K hK => ?_) AllReadyH.nil)
  have hOld := hide hHeld
  clear hHeld
  go_simp
  refine (HP1.out _ _ _ _ _ _ w.heap.size _ HBB.out H2.out).mono ?_
  rintro e v3 ⟨rfl, hd, ht⟩
  have H3 := hide hd
  have X3 := hide (ht.keep X2.out (by decide))
  have T3 := hide (T2.out.trans ht)
  clear hd ht
  (try go_wp2_with fail)
  refine hK.out _ _ (X3.out) (fun hHeld => ?_)
  clear hK K hOld
  try simp only [Act.put, List.setIfInBounds_toArray, List.set_cons_zero, List.set_cons_succ]
  refine wpAnyH_take (i := 4) (oi := { dst := some 52, op := Op.move (Operand.tmp 56), type := 36, pos := "law.go:258", after := #[{ on := 3, ground := Ground.data }], guard := none }) (v := ?_) rfl (by kernel_rfl) (by kernel_rfl) (by kernel_rfl) (fun _ _ _ h => h) (Or.inl ⟨by kernel_rfl, ?_⟩) hHeld ?_
  rotate_left
  · (intro w hSw; (try dsimp only at hSw); have e0 := cell_of_block hSw 0; have e1 := cell_of_block hSw 1; have e2 := cell_of_block hSw 2; have e3 := cell_of_block hSw 3; have e4 := cell_of_block hSw 4; go_simp); try with_reducible rfl
  try simp only [Act.put, List.setIfInBounds_toArray, List.set_cons_zero, List.set_cons_succ]
  refine wpAnyH_take (i := 5) (oi := { dst := some 57, op := Op.extract (Operand.tmp 52) 0, type := 3, pos := "law.go:258", after := #[{ on := 4, ground := Ground.data }], guard := none }) (v := ?_) rfl (by kernel_rfl) (by kernel_rfl) (by kernel_rfl) (fun _ _ _ h => h) (Or.inl ⟨by kernel_rfl, ?_⟩) hHeld ?_
  rotate_left
  · (intro w hSw; (try dsimp only at hSw); have e0 := cell_of_block hSw 0; have e1 := cell_of_block hSw 1; have e2 := cell_of_block hSw 2; have e3 := cell_of_block hSw 3; have e4 := cell_of_block hSw 4; go_simp); try with_reducible rfl
  try simp only [Act.put, List.setIfInBounds_toArray, List.set_cons_zero, List.set_cons_succ]
  refine wpAnyH_take (i := 6) (oi := { dst := some 58, op := Op.extract (Operand.tmp 52) 1, type := 23, pos := "law.go:258", after := #[{ on := 4, ground := Ground.data }, { on := 7, ground := Ground.gcOnly Departure.lateStores }], guard := none }) (v := ?_) rfl (by kernel_rfl) (by kernel_rfl) (by kernel_rfl) (fun _ _ _ h => h) (Or.inl ⟨by kernel_rfl, ?_⟩) hHeld ?_
  rotate_left
  · (intro w hSw; (try dsimp only at hSw); have e0 := cell_of_block hSw 0; have e1 := cell_of_block hSw 1; have e2 := cell_of_block hSw 2; have e3 := cell_of_block hSw 3; have e4 := cell_of_block hSw 4; go_simp); try with_reducible rfl
  try simp only [Act.put, List.setIfInBounds_toArray, List.set_cons_zero, List.set_cons_succ]
  refine wpAnyH_take (i := 7) (oi := { dst := some 10, op := Op.assign (Operand.tmp 57), type := 3, pos := "law.go:258", after := #[{ on := 5, ground := Ground.data }, { on := 3, ground := Ground.chain }, { on := 0, ground := Ground.phase }, { on := 1, ground := Ground.phase }, { on := 2, ground := Ground.phase }, { on := 3, ground := Ground.phase }, { on := 4, ground := Ground.phase }, { on := 5, ground := Ground.phase }, { on := 6, ground := Ground.textOnly Departure.lateStores }], guard := none }) (v := ?_) rfl (by kernel_rfl) (by kernel_rfl) (by kernel_rfl) (fun _ _ _ h => h) (Or.inl ⟨by kernel_rfl, ?_⟩) hHeld ?_
  rotate_left
  · (intro w hSw; (try dsimp only at hSw); have e0 := cell_of_block hSw 0; have e1 := cell_of_block hSw 1; have e2 := cell_of_block hSw 2; have e3 := cell_of_block hSw 3; have e4 := cell_of_block hSw 4; go_simp); try with_reducible rfl
  try simp only [Act.put, List.setIfInBounds_toArray, List.set_cons_zero, List.set_cons_succ]
  refine wpAnyH_take (i := 8) (oi := { dst := some 11, op := Op.assign (Operand.tmp 58), type := 23, pos := "law.go:258", after := #[{ on := 6, ground := Ground.data }, { on := 7, ground := Ground.chain }, { on := 0, ground := Ground.phase }, { on := 1, ground := Ground.phase }, { on := 2, ground := Ground.phase }, { on := 3, ground := Ground.phase }, { on := 4, ground := Ground.phase }, { on := 5, ground := Ground.phase }, { on := 6, ground := Ground.phase }, { on := 7, ground := Ground.phase }], guard := none }) (v := ?_) rfl (by kernel_rfl) (by kernel_rfl) (by kernel_rfl) (fun _ _ _ h => h) (Or.inl ⟨by kernel_rfl, ?_⟩) hHeld ?_
  rotate_left
  · (intro w hSw; (try dsimp only at hSw); have e0 := cell_of_block hSw 0; have e1 := cell_of_block hSw 1; have e2 := cell_of_block hSw 2; have e3 := cell_of_block hSw 3; have e4 := cell_of_block hSw 4; go_simp); try with_reducible rfl
  try simp only [Act.put, List.setIfInBounds_toArray, List.set_cons_zero, List.set_cons_succ]
  refine wpAnyH_done (by kernel_rfl) ?_ _
  clear hHeld H0 X0 T0 H2 X2 T2
  have hcm : cut % 4 = (c : Int) := HC.out
  go_wp2_with fail
  refine (HFU.out _ _ _ _ _ _ rfl H3.out.chip).mono ?_
  rintro e w6 ⟨rfl, hn, ht⟩
  rw [HTP0.out] at hn
  have H6 := hide (show DriveAt w6 d b p q w.heap.size G (tP f bf s b2 c 0) (tK ((0 : Nat) : Int)) from H3.out.turn hn ht HDF.out.1 HDF.out.2.1 HDF.out.2.2)
  have X6 := hide ((TurnD.of_turn ht (Nat.le_refl _)).keep X3.out (by decide))
  have T6 := hide (T3.out.trans (TurnD.of_turn ht (Nat.le_refl _)))
  clear hn ht H3 X3 T3 HFU HTP0 HDF HP1 hcm
  go_wp2_with fail
  go_loopw [67, 12] (fun i x W => ∃ m : Nat, m ≤ 4 ∧ i = .int .i64 (m : Int) ∧ TornAt W d b p q w.heap.size G f bf s b2 c m x ∧ W.heap[tb]? = some (.cells #[.int .u8 1, .int .i64 n, .int .u64 1, .int .i64 0, .int .i64 1] 31 (0, 0)) ∧ TurnD w.heap.size w W) (fun i _ _ => 4 - (intOf i).toNat)
  case atStart => exact ⟨0, by omega, rfl, Or.inl ⟨by omega, rfl, H6.out⟩, X6.out, T6.out⟩
  case round =>
    obtain ⟨m, hm, rfl, hta, hx, ht⟩ := hrel
    have X0 := hide (show wr.drew.heap[tb]? = _ from hx)
    have T0 := hide ht.drew
    have TR := hide ht
    clear hx ht H6 X6 T6
    by_cases hlt : m < 4
    · rcases hta with ⟨hmc', rfl, hd⟩ | ⟨hmc, rfl, hd⟩
      · have H0 := hide hd.drew
        clear hd
        by_cases hmc : m < c
        · clear hmc'
          go_upto_region 13 with (fail)
          refine wp_region_held_drew (S := (fun W => W.heap[tb]? = some (.cells #[.int .u8 1, .int .i64 n, .int .u64 1, .int .i64 0, .int .i64 1] 31 (0, 0)))) (by kernel_rfl) (X0.out) (fun hHeld => ?_)
          generalize wr.drew = v0 at *
          refine wpAnyH_take (i := 0) (oi := { dst := some 70, op := Op.move (Operand.tmp 7), type := 22, pos := "law.go:264", after := #[], guard := none }) (v := ?_) rfl (by kernel_rfl) (by kernel_rfl) (by kernel_rfl) (fun _ _ _ h => h) (Or.inl ⟨by kernel_rfl, ?_⟩) hHeld ?_
          rotate_left
          · (intro w hSw; (try dsimp only at hSw); have e0 := cell_of_block hSw 0; have e1 := cell_of_block hSw 1; have e2 := cell_of_block hSw 2; have e3 := cell_of_block hSw 3; have e4 := cell_of_block hSw 4; go_simp); try with_reducible rfl
          try simp only [Act.put, List.setIfInBounds_toArray, List.set_cons_zero, List.set_cons_succ]
          refine wpAnyH_take (i := 1) (oi := { dst := some 71, op := Op.load 31 (Operand.tmp 9), type := 31, pos := "law.go:264", after := #[], guard := none }) (v := ?_) rfl (by kernel_rfl) (by kernel_rfl) (by kernel_rfl) (fun _ _ _ h => h) (Or.inl ⟨by kernel_rfl, ?_⟩) hHeld ?_
          rotate_left
          · (intro w hSw; (try dsimp only at hSw); have e0 := cell_of_block hSw 0; have e1 := cell_of_block hSw 1; have e2 := cell_of_block hSw 2; have e3 := cell_of_block hSw 3; have e4 := cell_of_block hSw 4; go_simp); try with_reducible rfl
          try simp only [Act.put, List.setIfInBounds_toArray, List.set_cons_zero, List.set_cons_succ]
          refine wpAnyH_ready (rs := [2]) (by kernel_rfl) (by simp) (AllReadyH.cons (o := { dst := some 72, op := Op.call { callee := Callee.value (Operand.func 15), args := #[Operand.const (Value.string { data := #[115, 101, 99, 111, 110, 100] }), Operand.const (Value.int IntKind.i64 32)], argTypes := #[9, 3] }, type := 9, pos := "law.go:264", after := #[], guard := none }) rfl (fun K hK => ?_) AllReadyH.nil)
          have hOld := hide hHeld
          clear hHeld
          go_simp
          refine (HFS.out _).mono ?_
          rintro e v2 ⟨rfl, hb⟩
          have H2 := hide (H0.out.below hb)
          have X2 := hide ((hb.block _ (heap_lt X0.out)).trans X0.out)
          have T2 := hide (T0.out.trans (TurnD.of_below hb T0.out.1.size))
          clear hb
          (try go_wp2_with fail)
          refine hK.out _ _ (X2.out) (fun hHeld => ?_)
          clear hK K hOld
          try simp only [Act.put, List.setIfInBounds_toArray, List.set_cons_zero, List.set_cons_succ]
          refine wpAnyH_ready (rs := [3]) (by kernel_rfl) (by simp) (AllReadyH.cons (o := { dst := some 73, op := Op.call { callee := Callee.value (Operand.func 8), args := #[Operand.tmp 70, Operand.const (Value.int IntKind.i64 1), Operand.tmp 71, Operand.tmp 72], argTypes := #[22, 3, 31, 9] }, type := 36, pos := "law.go:264", after := #[{ on := 0, ground := Ground.data }, { on := 1, ground := Ground.data }, { on := 2, ground := Ground.data }, { on := 2, ground := Ground.chain }], guard := none }) rfl (fun K hK => ?_) AllReadyH.nil)
          have hOld := hide hHeld
          clear hHeld
          go_simp
          refine (HP2.out m hmc _ _ _ _ _ _ w.heap.size _ HBB.out H2.out).mono ?_
          rintro e v3 ⟨rfl, hd, ht⟩
          have H3 := hide hd
          have X3 := hide (ht.keep X2.out (by decide))
          have T3 := hide (T2.out.trans ht)
          clear hd ht
          (try go_wp2_with fail)
          refine hK.out _ _ (X3.out) (fun hHeld => ?_)
          clear hK K hOld
          try simp only [Act.put, List.setIfInBounds_toArray, List.set_cons_zero, List.set_cons_succ]
          refine wpAnyH_take (i := 4) (oi := { dst := some 69, op := Op.move (Operand.tmp 73), type := 36, pos := "law.go:264", after := #[{ on := 3, ground := Ground.data }], guard := none }) (v := ?_) rfl (by kernel_rfl) (by kernel_rfl) (by kernel_rfl) (fun _ _ _ h => h) (Or.inl ⟨by kernel_rfl, ?_⟩) hHeld ?_
          rotate_left
          · (intro w hSw; (try dsimp only at hSw); have e0 := cell_of_block hSw 0; have e1 := cell_of_block hSw 1; have e2 := cell_of_block hSw 2; have e3 := cell_of_block hSw 3; have e4 := cell_of_block hSw 4; go_simp); try with_reducible rfl
          try simp only [Act.put, List.setIfInBounds_toArray, List.set_cons_zero, List.set_cons_succ]
          refine wpAnyH_take (i := 5) (oi := { dst := some 74, op := Op.extract (Operand.tmp 69) 0, type := 3, pos := "law.go:264", after := #[{ on := 4, ground := Ground.data }], guard := none }) (v := ?_) rfl (by kernel_rfl) (by kernel_rfl) (by kernel_rfl) (fun _ _ _ h => h) (Or.inl ⟨by kernel_rfl, ?_⟩) hHeld ?_
          rotate_left
          · (intro w hSw; (try dsimp only at hSw); have e0 := cell_of_block hSw 0; have e1 := cell_of_block hSw 1; have e2 := cell_of_block hSw 2; have e3 := cell_of_block hSw 3; have e4 := cell_of_block hSw 4; go_simp); try with_reducible rfl
          try simp only [Act.put, List.setIfInBounds_toArray, List.set_cons_zero, List.set_cons_succ]
          refine wpAnyH_take (i := 6) (oi := { dst := some 75, op := Op.extract (Operand.tmp 69) 1, type := 23, pos := "law.go:264", after := #[{ on := 4, ground := Ground.data }, { on := 7, ground := Ground.gcOnly Departure.lateStores }], guard := none }) (v := ?_) rfl (by kernel_rfl) (by kernel_rfl) (by kernel_rfl) (fun _ _ _ h => h) (Or.inl ⟨by kernel_rfl, ?_⟩) hHeld ?_
          rotate_left
          · (intro w hSw; (try dsimp only at hSw); have e0 := cell_of_block hSw 0; have e1 := cell_of_block hSw 1; have e2 := cell_of_block hSw 2; have e3 := cell_of_block hSw 3; have e4 := cell_of_block hSw 4; go_simp); try with_reducible rfl
          try simp only [Act.put, List.setIfInBounds_toArray, List.set_cons_zero, List.set_cons_succ]
          refine wpAnyH_take (i := 7) (oi := { dst := some 13, op := Op.assign (Operand.tmp 74), type := 3, pos := "law.go:264", after := #[{ on := 5, ground := Ground.data }, { on := 3, ground := Ground.chain }, { on := 0, ground := Ground.phase }, { on := 1, ground := Ground.phase }, { on := 2, ground := Ground.phase }, { on := 3, ground := Ground.phase }, { on := 4, ground := Ground.phase }, { on := 5, ground := Ground.phase }, { on := 6, ground := Ground.textOnly Departure.lateStores }], guard := none }) (v := ?_) rfl (by kernel_rfl) (by kernel_rfl) (by kernel_rfl) (fun _ _ _ h => h) (Or.inl ⟨by kernel_rfl, ?_⟩) hHeld ?_
          rotate_left
          · (intro w hSw; (try dsimp only at hSw); have e0 := cell_of_block hSw 0; have e1 := cell_of_block hSw 1; have e2 := cell_of_block hSw 2; have e3 := cell_of_block hSw 3; have e4 := cell_of_block hSw 4; go_simp); try with_reducible rfl
          try simp only [Act.put, List.setIfInBounds_toArray, List.set_cons_zero, List.set_cons_succ]
          refine wpAnyH_take (i := 8) (oi := { dst := some 14, op := Op.assign (Operand.tmp 75), type := 23, pos := "law.go:264", after := #[{ on := 6, ground := Ground.data }, { on := 7, ground := Ground.chain }, { on := 0, ground := Ground.phase }, { on := 1, ground := Ground.phase }, { on := 2, ground := Ground.phase }, { on := 3, ground := Ground.phase }, { on := 4, ground := Ground.phase }, { on := 5, ground := Ground.phase }, { on := 6, ground := Ground.phase }, { on := 7, ground := Ground.phase }], guard := none }) (v := ?_) rfl (by kernel_rfl) (by kernel_rfl) (by kernel_rfl) (fun _ _ _ h => h) (Or.inl ⟨by kernel_rfl, ?_⟩) hHeld ?_
          rotate_left
          · (intro w hSw; (try dsimp only at hSw); have e0 := cell_of_block hSw 0; have e1 := cell_of_block hSw 1; have e2 := cell_of_block hSw 2; have e3 := cell_of_block hSw 3; have e4 := cell_of_block hSw 4; go_simp); try with_reducible rfl
          try simp only [Act.put, List.setIfInBounds_toArray, List.set_cons_zero, List.set_cons_succ]
          refine wpAnyH_done (by kernel_rfl) ?_ _
          clear hHeld H0 X0 T0 H2 X2 T2
          go_wp2_with fail
          go_roundw
          case rel => exact ⟨m + 1, by omega, by go_num, Or.inl ⟨by omega, by go_num, by rw [show ((m + 1 : Nat) : Int) = (m : Int) + 1 by omega]; exact H3.out⟩, X3.out, T3.out⟩
          case measure => simp [intOf]; omega
        · obtain rfl : m = c := by omega
          clear hmc hmc'
          go_upto_region 13 with (fail)
          refine wp_region_held_drew (S := (fun W => W.heap[tb]? = some (.cells #[.int .u8 1, .int .i64 n, .int .u64 1, .int .i64 0, .int .i64 1] 31 (0, 0)))) (by kernel_rfl) (X0.out) (fun hHeld => ?_)
          generalize wr.drew = v0 at *
          refine wpAnyH_take (i := 0) (oi := { dst := some 70, op := Op.move (Operand.tmp 7), type := 22, pos := "law.go:264", after := #[], guard := none }) (v := ?_) rfl (by kernel_rfl) (by kernel_rfl) (by kernel_rfl) (fun _ _ _ h => h) (Or.inl ⟨by kernel_rfl, ?_⟩) hHeld ?_
          rotate_left
          · (intro w hSw; (try dsimp only at hSw); have e0 := cell_of_block hSw 0; have e1 := cell_of_block hSw 1; have e2 := cell_of_block hSw 2; have e3 := cell_of_block hSw 3; have e4 := cell_of_block hSw 4; go_simp); try with_reducible rfl
          try simp only [Act.put, List.setIfInBounds_toArray, List.set_cons_zero, List.set_cons_succ]
          refine wpAnyH_take (i := 1) (oi := { dst := some 71, op := Op.load 31 (Operand.tmp 9), type := 31, pos := "law.go:264", after := #[], guard := none }) (v := ?_) rfl (by kernel_rfl) (by kernel_rfl) (by kernel_rfl) (fun _ _ _ h => h) (Or.inl ⟨by kernel_rfl, ?_⟩) hHeld ?_
          rotate_left
          · (intro w hSw; (try dsimp only at hSw); have e0 := cell_of_block hSw 0; have e1 := cell_of_block hSw 1; have e2 := cell_of_block hSw 2; have e3 := cell_of_block hSw 3; have e4 := cell_of_block hSw 4; go_simp); try with_reducible rfl
          try simp only [Act.put, List.setIfInBounds_toArray, List.set_cons_zero, List.set_cons_succ]
          refine wpAnyH_ready (rs := [2]) (by kernel_rfl) (by simp) (AllReadyH.cons (o := { dst := some 72, op := Op.call { callee := Callee.value (Operand.func 15), args := #[Operand.const (Value.string { data := #[115, 101, 99, 111, 110, 100] }), Operand.const (Value.int IntKind.i64 32)], argTypes := #[9, 3] }, type := 9, pos := "law.go:264", after := #[], guard := none }) rfl (fun K hK => ?_) AllReadyH.nil)
          have hOld := hide hHeld
          clear hHeld
          go_simp
          refine (HFS.out _).mono ?_
          rintro e v2 ⟨rfl, hb⟩
          have H2 := hide (H0.out.below hb)
          have X2 := hide ((hb.block _ (heap_lt X0.out)).trans X0.out)
          have T2 := hide (T0.out.trans (TurnD.of_below hb T0.out.1.size))
          clear hb
          (try go_wp2_with fail)
          refine hK.out _ _ (X2.out) (fun hHeld => ?_)
          clear hK K hOld
          try simp only [Act.put, List.setIfInBounds_toArray, List.set_cons_zero, List.set_cons_succ]
          refine wpAnyH_ready (rs := [3]) (by kernel_rfl) (by simp) (AllReadyH.cons (o := { dst := some 73, op := Op.call { callee := Callee.value (Operand.func 8), args := #[Operand.tmp 70, Operand.const (Value.int IntKind.i64 1), Operand.tmp 71, Operand.tmp 72], argTypes := #[22, 3, 31, 9] }, type := 36, pos := "law.go:264", after := #[{ on := 0, ground := Ground.data }, { on := 1, ground := Ground.data }, { on := 2, ground := Ground.data }, { on := 2, ground := Ground.chain }], guard := none }) rfl (fun K hK => ?_) AllReadyH.nil)
          have hOld := hide hHeld
          clear hHeld
          go_simp
          refine (HPE.out _ _ _ _ _ _ w.heap.size _ HBB.out H2.out).mono ?_
          rintro e v3 ⟨rfl, hd, ht⟩
          have H3 := hide hd
          have X3 := hide (ht.keep X2.out (by decide))
          have T3 := hide (T2.out.trans ht)
          clear hd ht
          (try go_wp2_with fail)
          refine hK.out _ _ (X3.out) (fun hHeld => ?_)
          clear hK K hOld
          try simp only [Act.put, List.setIfInBounds_toArray, List.set_cons_zero, List.set_cons_succ]
          refine wpAnyH_take (i := 4) (oi := { dst := some 69, op := Op.move (Operand.tmp 73), type := 36, pos := "law.go:264", after := #[{ on := 3, ground := Ground.data }], guard := none }) (v := ?_) rfl (by kernel_rfl) (by kernel_rfl) (by kernel_rfl) (fun _ _ _ h => h) (Or.inl ⟨by kernel_rfl, ?_⟩) hHeld ?_
          rotate_left
          · (intro w hSw; (try dsimp only at hSw); have e0 := cell_of_block hSw 0; have e1 := cell_of_block hSw 1; have e2 := cell_of_block hSw 2; have e3 := cell_of_block hSw 3; have e4 := cell_of_block hSw 4; go_simp); try with_reducible rfl
          try simp only [Act.put, List.setIfInBounds_toArray, List.set_cons_zero, List.set_cons_succ]
          refine wpAnyH_take (i := 5) (oi := { dst := some 74, op := Op.extract (Operand.tmp 69) 0, type := 3, pos := "law.go:264", after := #[{ on := 4, ground := Ground.data }], guard := none }) (v := ?_) rfl (by kernel_rfl) (by kernel_rfl) (by kernel_rfl) (fun _ _ _ h => h) (Or.inl ⟨by kernel_rfl, ?_⟩) hHeld ?_
          rotate_left
          · (intro w hSw; (try dsimp only at hSw); have e0 := cell_of_block hSw 0; have e1 := cell_of_block hSw 1; have e2 := cell_of_block hSw 2; have e3 := cell_of_block hSw 3; have e4 := cell_of_block hSw 4; go_simp); try with_reducible rfl
          try simp only [Act.put, List.setIfInBounds_toArray, List.set_cons_zero, List.set_cons_succ]
          refine wpAnyH_take (i := 6) (oi := { dst := some 75, op := Op.extract (Operand.tmp 69) 1, type := 23, pos := "law.go:264", after := #[{ on := 4, ground := Ground.data }, { on := 7, ground := Ground.gcOnly Departure.lateStores }], guard := none }) (v := ?_) rfl (by kernel_rfl) (by kernel_rfl) (by kernel_rfl) (fun _ _ _ h => h) (Or.inl ⟨by kernel_rfl, ?_⟩) hHeld ?_
          rotate_left
          · (intro w hSw; (try dsimp only at hSw); have e0 := cell_of_block hSw 0; have e1 := cell_of_block hSw 1; have e2 := cell_of_block hSw 2; have e3 := cell_of_block hSw 3; have e4 := cell_of_block hSw 4; go_simp); try with_reducible rfl
          try simp only [Act.put, List.setIfInBounds_toArray, List.set_cons_zero, List.set_cons_succ]
          refine wpAnyH_take (i := 7) (oi := { dst := some 13, op := Op.assign (Operand.tmp 74), type := 3, pos := "law.go:264", after := #[{ on := 5, ground := Ground.data }, { on := 3, ground := Ground.chain }, { on := 0, ground := Ground.phase }, { on := 1, ground := Ground.phase }, { on := 2, ground := Ground.phase }, { on := 3, ground := Ground.phase }, { on := 4, ground := Ground.phase }, { on := 5, ground := Ground.phase }, { on := 6, ground := Ground.textOnly Departure.lateStores }], guard := none }) (v := ?_) rfl (by kernel_rfl) (by kernel_rfl) (by kernel_rfl) (fun _ _ _ h => h) (Or.inl ⟨by kernel_rfl, ?_⟩) hHeld ?_
          rotate_left
          · (intro w hSw; (try dsimp only at hSw); have e0 := cell_of_block hSw 0; have e1 := cell_of_block hSw 1; have e2 := cell_of_block hSw 2; have e3 := cell_of_block hSw 3; have e4 := cell_of_block hSw 4; go_simp); try with_reducible rfl
          try simp only [Act.put, List.setIfInBounds_toArray, List.set_cons_zero, List.set_cons_succ]
          refine wpAnyH_take (i := 8) (oi := { dst := some 14, op := Op.assign (Operand.tmp 75), type := 23, pos := "law.go:264", after := #[{ on := 6, ground := Ground.data }, { on := 7, ground := Ground.chain }, { on := 0, ground := Ground.phase }, { on := 1, ground := Ground.phase }, { on := 2, ground := Ground.phase }, { on := 3, ground := Ground.phase }, { on := 4, ground := Ground.phase }, { on := 5, ground := Ground.phase }, { on := 6, ground := Ground.phase }, { on := 7, ground := Ground.phase }], guard := none }) (v := ?_) rfl (by kernel_rfl) (by kernel_rfl) (by kernel_rfl) (fun _ _ _ h => h) (Or.inl ⟨by kernel_rfl, ?_⟩) hHeld ?_
          rotate_left
          · (intro w hSw; (try dsimp only at hSw); have e0 := cell_of_block hSw 0; have e1 := cell_of_block hSw 1; have e2 := cell_of_block hSw 2; have e3 := cell_of_block hSw 3; have e4 := cell_of_block hSw 4; go_simp); try with_reducible rfl
          try simp only [Act.put, List.setIfInBounds_toArray, List.set_cons_zero, List.set_cons_succ]
          refine wpAnyH_done (by kernel_rfl) ?_ _
          clear hHeld H0 X0 T0 H2 X2 T2
          go_wp2_with fail
          go_roundw
          case rel => exact ⟨m + 1, by omega, by go_num, Or.inr ⟨by omega, rfl, H3.out⟩, X3.out, T3.out⟩
          case measure => simp [intOf]; omega
      · have H0 := hide hd.drew
        clear hd
        go_upto_region 13 with (fail)
        refine wp_region_held_drew (S := (fun W => W.heap[tb]? = some (.cells #[.int .u8 1, .int .i64 n, .int .u64 1, .int .i64 0, .int .i64 1] 31 (0, 0)))) (by kernel_rfl) (X0.out) (fun hHeld => ?_)
        generalize wr.drew = v0 at *
        refine wpAnyH_take (i := 0) (oi := { dst := some 70, op := Op.move (Operand.tmp 7), type := 22, pos := "law.go:264", after := #[], guard := none }) (v := ?_) rfl (by kernel_rfl) (by kernel_rfl) (by kernel_rfl) (fun _ _ _ h => h) (Or.inl ⟨by kernel_rfl, ?_⟩) hHeld ?_
        rotate_left
        · (intro w hSw; (try dsimp only at hSw); have e0 := cell_of_block hSw 0; have e1 := cell_of_block hSw 1; have e2 := cell_of_block hSw 2; have e3 := cell_of_block hSw 3; have e4 := cell_of_block hSw 4; go_simp); try with_reducible rfl
        try simp only [Act.put, List.setIfInBounds_toArray, List.set_cons_zero, List.set_cons_succ]
        refine wpAnyH_take (i := 1) (oi := { dst := some 71, op := Op.load 31 (Operand.tmp 9), type := 31, pos := "law.go:264", after := #[], guard := none }) (v := ?_) rfl (by kernel_rfl) (by kernel_rfl) (by kernel_rfl) (fun _ _ _ h => h) (Or.inl ⟨by kernel_rfl, ?_⟩) hHeld ?_
        rotate_left
        · (intro w hSw; (try dsimp only at hSw); have e0 := cell_of_block hSw 0; have e1 := cell_of_block hSw 1; have e2 := cell_of_block hSw 2; have e3 := cell_of_block hSw 3; have e4 := cell_of_block hSw 4; go_simp); try with_reducible rfl
        try simp only [Act.put, List.setIfInBounds_toArray, List.set_cons_zero, List.set_cons_succ]
        refine wpAnyH_ready (rs := [2]) (by kernel_rfl) (by simp) (AllReadyH.cons (o := { dst := some 72, op := Op.call { callee := Callee.value (Operand.func 15), args := #[Operand.const (Value.string { data := #[115, 101, 99, 111, 110, 100] }), Operand.const (Value.int IntKind.i64 32)], argTypes := #[9, 3] }, type := 9, pos := "law.go:264", after := #[], guard := none }) rfl (fun K hK => ?_) AllReadyH.nil)
        have hOld := hide hHeld
        clear hHeld
        go_simp
        refine (HFS.out _).mono ?_
        rintro e v2 ⟨rfl, hb⟩
        have H2 := hide (H0.out.below hb)
        have X2 := hide ((hb.block _ (heap_lt X0.out)).trans X0.out)
        have T2 := hide (T0.out.trans (TurnD.of_below hb T0.out.1.size))
        clear hb
        (try go_wp2_with fail)
        refine hK.out _ _ (X2.out) (fun hHeld => ?_)
        clear hK K hOld
        try simp only [Act.put, List.setIfInBounds_toArray, List.set_cons_zero, List.set_cons_succ]
        refine wpAnyH_ready (rs := [3]) (by kernel_rfl) (by simp) (AllReadyH.cons (o := { dst := some 73, op := Op.call { callee := Callee.value (Operand.func 8), args := #[Operand.tmp 70, Operand.const (Value.int IntKind.i64 1), Operand.tmp 71, Operand.tmp 72], argTypes := #[22, 3, 31, 9] }, type := 36, pos := "law.go:264", after := #[{ on := 0, ground := Ground.data }, { on := 1, ground := Ground.data }, { on := 2, ground := Ground.data }, { on := 2, ground := Ground.chain }], guard := none }) rfl (fun K hK => ?_) AllReadyH.nil)
        have hOld := hide hHeld
        clear hHeld
        go_simp
        refine (HPX.out _ _ _ _ _ _ _ H2.out).mono ?_
        rintro e v3 ⟨rfl, hb⟩
        have H3 := hide (H2.out.below hb)
        have X3 := hide ((hb.block _ (heap_lt X2.out)).trans X2.out)
        have T3 := hide (T2.out.trans (TurnD.of_below hb T2.out.1.size))
        clear hb
        (try go_wp2_with fail)
        refine hK.out _ _ (X3.out) (fun hHeld => ?_)
        clear hK K hOld
        try simp only [Act.put, List.setIfInBounds_toArray, List.set_cons_zero, List.set_cons_succ]
        refine wpAnyH_take (i := 4) (oi := { dst := some 69, op := Op.move (Operand.tmp 73), type := 36, pos := "law.go:264", after := #[{ on := 3, ground := Ground.data }], guard := none }) (v := ?_) rfl (by kernel_rfl) (by kernel_rfl) (by kernel_rfl) (fun _ _ _ h => h) (Or.inl ⟨by kernel_rfl, ?_⟩) hHeld ?_
        rotate_left
        · (intro w hSw; (try dsimp only at hSw); have e0 := cell_of_block hSw 0; have e1 := cell_of_block hSw 1; have e2 := cell_of_block hSw 2; have e3 := cell_of_block hSw 3; have e4 := cell_of_block hSw 4; go_simp); try with_reducible rfl
        try simp only [Act.put, List.setIfInBounds_toArray, List.set_cons_zero, List.set_cons_succ]
        refine wpAnyH_take (i := 5) (oi := { dst := some 74, op := Op.extract (Operand.tmp 69) 0, type := 3, pos := "law.go:264", after := #[{ on := 4, ground := Ground.data }], guard := none }) (v := ?_) rfl (by kernel_rfl) (by kernel_rfl) (by kernel_rfl) (fun _ _ _ h => h) (Or.inl ⟨by kernel_rfl, ?_⟩) hHeld ?_
        rotate_left
        · (intro w hSw; (try dsimp only at hSw); have e0 := cell_of_block hSw 0; have e1 := cell_of_block hSw 1; have e2 := cell_of_block hSw 2; have e3 := cell_of_block hSw 3; have e4 := cell_of_block hSw 4; go_simp); try with_reducible rfl
        try simp only [Act.put, List.setIfInBounds_toArray, List.set_cons_zero, List.set_cons_succ]
        refine wpAnyH_take (i := 6) (oi := { dst := some 75, op := Op.extract (Operand.tmp 69) 1, type := 23, pos := "law.go:264", after := #[{ on := 4, ground := Ground.data }, { on := 7, ground := Ground.gcOnly Departure.lateStores }], guard := none }) (v := ?_) rfl (by kernel_rfl) (by kernel_rfl) (by kernel_rfl) (fun _ _ _ h => h) (Or.inl ⟨by kernel_rfl, ?_⟩) hHeld ?_
        rotate_left
        · (intro w hSw; (try dsimp only at hSw); have e0 := cell_of_block hSw 0; have e1 := cell_of_block hSw 1; have e2 := cell_of_block hSw 2; have e3 := cell_of_block hSw 3; have e4 := cell_of_block hSw 4; go_simp); try with_reducible rfl
        try simp only [Act.put, List.setIfInBounds_toArray, List.set_cons_zero, List.set_cons_succ]
        refine wpAnyH_take (i := 7) (oi := { dst := some 13, op := Op.assign (Operand.tmp 74), type := 3, pos := "law.go:264", after := #[{ on := 5, ground := Ground.data }, { on := 3, ground := Ground.chain }, { on := 0, ground := Ground.phase }, { on := 1, ground := Ground.phase }, { on := 2, ground := Ground.phase }, { on := 3, ground := Ground.phase }, { on := 4, ground := Ground.phase }, { on := 5, ground := Ground.phase }, { on := 6, ground := Ground.textOnly Departure.lateStores }], guard := none }) (v := ?_) rfl (by kernel_rfl) (by kernel_rfl) (by kernel_rfl) (fun _ _ _ h => h) (Or.inl ⟨by kernel_rfl, ?_⟩) hHeld ?_
        rotate_left
        · (intro w hSw; (try dsimp only at hSw); have e0 := cell_of_block hSw 0; have e1 := cell_of_block hSw 1; have e2 := cell_of_block hSw 2; have e3 := cell_of_block hSw 3; have e4 := cell_of_block hSw 4; go_simp); try with_reducible rfl
        try simp only [Act.put, List.setIfInBounds_toArray, List.set_cons_zero, List.set_cons_succ]
        refine wpAnyH_take (i := 8) (oi := { dst := some 14, op := Op.assign (Operand.tmp 75), type := 23, pos := "law.go:264", after := #[{ on := 6, ground := Ground.data }, { on := 7, ground := Ground.chain }, { on := 0, ground := Ground.phase }, { on := 1, ground := Ground.phase }, { on := 2, ground := Ground.phase }, { on := 3, ground := Ground.phase }, { on := 4, ground := Ground.phase }, { on := 5, ground := Ground.phase }, { on := 6, ground := Ground.phase }, { on := 7, ground := Ground.phase }], guard := none }) (v := ?_) rfl (by kernel_rfl) (by kernel_rfl) (by kernel_rfl) (fun _ _ _ h => h) (Or.inl ⟨by kernel_rfl, ?_⟩) hHeld ?_
        rotate_left
        · (intro w hSw; (try dsimp only at hSw); have e0 := cell_of_block hSw 0; have e1 := cell_of_block hSw 1; have e2 := cell_of_block hSw 2; have e3 := cell_of_block hSw 3; have e4 := cell_of_block hSw 4; go_simp); try with_reducible rfl
        try simp only [Act.put, List.setIfInBounds_toArray, List.set_cons_zero, List.set_cons_succ]
        refine wpAnyH_done (by kernel_rfl) ?_ _
        clear hHeld H0 X0 T0 H2 X2 T2
        go_wp2_with fail
        go_roundw
        case rel => exact ⟨m + 1, by omega, by go_num, Or.inr ⟨by omega, rfl, H3.out⟩, X3.out, T3.out⟩
        case measure => simp [intOf]; omega
    · obtain rfl : m = 4 := by omega
      rcases hta with ⟨hmc', rfl, hd⟩ | ⟨hmc, rfl, hd⟩
      · omega
      have H7 := hide (show DriveAt wr d b p q w.heap.size G _ tK0 from hd)
      have T7 := hide (show TurnD w.heap.size w wr from TR.out)
      have hcm : cut % 4 = (c : Int) := HC.out
      clear hd hmc X0 T0 HP2 HPE HPX HFS
      go_wp2_with fail
      refine (HOF.out _ _ _ _ _ H7.out.chip).mono ?_
      rintro e w7 ⟨rfl, rfl⟩
      clear hcm
      go_wp2_with fail
      refine (HNX.out 0 (by decide) _ _ _ _ _ _ _ H7.out).mono ?_
      rintro e w7 ⟨rfl, rfl⟩
      go_wp2_with fail
      refine (HNX.out 1 (by decide) _ _ _ _ _ _ _ H7.out).mono ?_
      rintro e w7 ⟨rfl, rfl⟩
      go_wp2_with fail
      refine (HON.out _ _ _ _ _ H7.out.chip).mono ?_
      rintro e w7 ⟨rfl, hn, ht⟩
      have H8 := hide (show DriveAt w7 d b p q w.heap.size G (tX f bf s b2 c) tK0 from H7.out.turn hn ht HXD.out.1 HXD.out.2.1 HXD.out.2.2)
      have B8 := hide (T7.out.1.trans ht.1)
      clear hn ht H7 T7 HOF HNX HON HXD
      go_wp2_with fail
      refine (HR0.out _ _ _ _ _ _ _ H8.out).mono ?_
      rintro e w8 ⟨rfl, hb⟩
      have hal := (Below.refl w8.heap.size w8).alloc (Nat.le_refl _) (.cells #[.int .i64 4, .int .u8 1, .int .i64 n, .int .u64 1, .int .i64 0, .int .i64 1, .string f] 33)
      have H9 := hide ((H8.out.below hb).below hal)
      have Y9 := hide (heap_new w8 (.cells #[.int .i64 4, .int .u8 1, .int .i64 n, .int .u64 1, .int .i64 0, .int .i64 1, .string f] 33))
      have B9 := hide ((B8.out.trans (hb.mono B8.out.size)).trans (hal.mono (Nat.le_trans B8.out.size hb.size)))
      clear hb hal H8 B8 HR0
      go_upto_region 23 with (fail)
      generalize w8.alloc (.cells #[.int .i64 4, .int .u8 1, .int .i64 n, .int .u64 1, .int .i64 0, .int .i64 1, .string f] 33) = wa at *
      generalize w8.heap.size = pb at *
      go_wp2_with fail
      refine (HR1.out _ _ _ _ _ _ _ H9.out).mono ?_
      rintro e wb ⟨rfl, hb⟩
      have hal := (Below.refl wb.heap.size wb).alloc (Nat.le_refl _) (.cells #[.int .i64 st, .int .u8 0, .int .i64 0, .int .u64 0, .int .i64 0, .int .i64 0, .string tt] 33)
      have Z0 := hide (heap_new wb (.cells #[.int .i64 st, .int .u8 0, .int .i64 0, .int .u64 0, .int .i64 0, .int .i64 0, .string tt] 33))
      have Y0 := hide ((hal.block _ (heap_lt ((hb.block _ (heap_lt Y9.out)).trans Y9.out))).trans ((hb.block _ (heap_lt Y9.out)).trans Y9.out))
      have T0 := hide ((B9.out.trans (hb.mono B9.out.size)).trans (hal.mono (Nat.le_trans B9.out.size hb.size)))
      clear hb hal H9 B9 Y9 HR1
      go_upto_region 24 with (fail)
      generalize wb.alloc (.cells #[.int .i64 st, .int .u8 0, .int .i64 0, .int .u64 0, .int .i64 0, .int .i64 0, .string tt] 33) = w9 at *
      generalize wb.heap.size = qb at *
      have Z0 := hide (show w9.drew.heap[qb]? = _ from Z0.out)
      have Y0 := hide (show w9.drew.heap[pb]? = _ from Y0.out)
      have T0 := hide T0.out.drew
      refine wp_region_held_drew (S := (fun W => W.heap[pb]? = some (.cells #[.int .i64 4, .int .u8 1, .int .i64 n, .int .u64 1, .int .i64 0, .int .i64 1, .string f] 33 (0, 0)) ∧ W.heap[qb]? = some (.cells #[.int .i64 st, .int .u8 0, .int .i64 0, .int .u64 0, .int .i64 0, .int .i64 0, .string tt] 33 (0, 0)))) (by kernel_rfl) (⟨Y0.out, Z0.out⟩) (fun hHeld => ?_)
      generalize w9.drew = v0 at *
      refine wpAnyH_take (i := 0) (oi := { dst := some 120, op := Op.move (Operand.tmp 16), type := 23, pos := "law.go:276", after := #[], guard := none }) (v := ?_) rfl (by kernel_rfl) (by kernel_rfl) (by kernel_rfl) (fun _ _ _ h => h) (Or.inl ⟨by kernel_rfl, ?_⟩) hHeld ?_
      rotate_left
      · (intro w hSw; (try dsimp only at hSw); have e0 := cell_of_block hSw.1 0; have e6 := cell_of_block hSw.1 6; have g0 := cell_of_block hSw.2 0; go_simp); try with_reducible rfl
      try simp only [Act.put, List.setIfInBounds_toArray, List.set_cons_zero, List.set_cons_succ]
      refine wpAnyH_take (i := 1) (oi := { dst := some 121, op := Op.binOp BinOp.eql 23 (Operand.tmp 120) (Operand.const (Value.int IntKind.i64 0)) 23, type := 4, pos := "law.go:276", after := #[{ on := 0, ground := Ground.data }], guard := none }) (v := ?_) rfl (by kernel_rfl) (by kernel_rfl) (by kernel_rfl) (fun _ _ _ h => h) (Or.inl ⟨by kernel_rfl, ?_⟩) hHeld ?_
      rotate_left
      · (intro w hSw; (try dsimp only at hSw); have e0 := cell_of_block hSw.1 0; have e6 := cell_of_block hSw.1 6; have g0 := cell_of_block hSw.2 0; go_simp); try with_reducible rfl
      try simp only [Act.put, List.setIfInBounds_toArray, List.set_cons_zero, List.set_cons_succ]
      refine wpAnyH_take (i := 2) (oi := { dst := some 122, op := Op.move (Operand.tmp 121), type := 4, pos := "law.go:276", after := #[{ on := 1, ground := Ground.data }], guard := none }) (v := ?_) rfl (by kernel_rfl) (by kernel_rfl) (by kernel_rfl) (fun _ _ _ h => h) (Or.inl ⟨by kernel_rfl, ?_⟩) hHeld ?_
      rotate_left
      · (intro w hSw; (try dsimp only at hSw); have e0 := cell_of_block hSw.1 0; have e6 := cell_of_block hSw.1 6; have g0 := cell_of_block hSw.2 0; go_simp); try with_reducible rfl
      try simp only [Act.put, List.setIfInBounds_toArray, List.set_cons_zero, List.set_cons_succ]
      refine wpAnyH_take (i := 3) (oi := { dst := some 123, op := Op.fieldAddr 33 (Operand.tmp 15) 0, type := 0, pos := "law.go:276", after := #[{ on := 2, ground := Ground.guard }], guard := some (2, true) }) (v := ?_) rfl (by kernel_rfl) (by kernel_rfl) (by kernel_rfl) (fun _ _ _ h => h) (Or.inl ⟨by kernel_rfl, ?_⟩) hHeld ?_
      rotate_left
      · (intro w hSw; (try dsimp only at hSw); have e0 := cell_of_block hSw.1 0; have e6 := cell_of_block hSw.1 6; have g0 := cell_of_block hSw.2 0; go_simp); try with_reducible rfl
      try simp only [Act.put, List.setIfInBounds_toArray, List.set_cons_zero, List.set_cons_succ]
      refine wpAnyH_take (i := 4) (oi := { dst := some 124, op := Op.load 27 (Operand.tmp 123), type := 27, pos := "law.go:276", after := #[{ on := 3, ground := Ground.data }, { on := 2, ground := Ground.guard }], guard := some (2, true) }) (v := ?_) rfl (by kernel_rfl) (by kernel_rfl) (by kernel_rfl) (fun _ _ _ h => h) (Or.inl ⟨by kernel_rfl, ?_⟩) hHeld ?_
      rotate_left
      · (intro w hSw; (try dsimp only at hSw); have e0 := cell_of_block hSw.1 0; have e6 := cell_of_block hSw.1 6; have g0 := cell_of_block hSw.2 0; go_simp); try with_reducible rfl
      try simp only [Act.put, List.setIfInBounds_toArray, List.set_cons_zero, List.set_cons_succ]
      refine wpAnyH_take (i := 5) (oi := { dst := some 125, op := Op.binOp BinOp.eql 27 (Operand.tmp 124) (Operand.const (Value.int IntKind.i64 4)) 27, type := 4, pos := "law.go:276", after := #[{ on := 4, ground := Ground.data }, { on := 2, ground := Ground.guard }], guard := some (2, true) }) (v := ?_) rfl (by kernel_rfl) (by kernel_rfl) (by kernel_rfl) (fun _ _ _ h => h) (Or.inl ⟨by kernel_rfl, ?_⟩) hHeld ?_
      rotate_left
      · (intro w hSw; (try dsimp only at hSw); have e0 := cell_of_block hSw.1 0; have e6 := cell_of_block hSw.1 6; have g0 := cell_of_block hSw.2 0; go_simp); try with_reducible rfl
      try simp only [Act.put, List.setIfInBounds_toArray, List.set_cons_zero, List.set_cons_succ]
      refine wpAnyH_take (i := 6) (oi := { dst := some 126, op := Op.pick (Operand.tmp 122) (Operand.tmp 125) (Operand.const (Value.bool false)), type := 4, pos := "law.go:276", after := #[{ on := 2, ground := Ground.data }, { on := 5, ground := Ground.data }], guard := none }) (v := ?_) rfl (by kernel_rfl) (by kernel_rfl) (by kernel_rfl) (fun _ _ _ h => h) (Or.inl ⟨by kernel_rfl, ?_⟩) hHeld ?_
      rotate_left
      · (intro w hSw; (try dsimp only at hSw); have e0 := cell_of_block hSw.1 0; have e6 := cell_of_block hSw.1 6; have g0 := cell_of_block hSw.2 0; go_simp); try with_reducible rfl
      try simp only [Act.put, List.setIfInBounds_toArray, List.set_cons_zero, List.set_cons_succ]
      refine wpAnyH_take (i := 7) (oi := { dst := some 127, op := Op.move (Operand.tmp 126), type := 4, pos := "law.go:276", after := #[{ on := 6, ground := Ground.data }, { on := 2, ground := Ground.chain }], guard := none }) (v := ?_) rfl (by kernel_rfl) (by kernel_rfl) (by kernel_rfl) (fun _ _ _ h => h) (Or.inl ⟨by kernel_rfl, ?_⟩) hHeld ?_
      rotate_left
      · (intro w hSw; (try dsimp only at hSw); have e0 := cell_of_block hSw.1 0; have e6 := cell_of_block hSw.1 6; have g0 := cell_of_block hSw.2 0; go_simp); try with_reducible rfl
      try simp only [Act.put, List.setIfInBounds_toArray, List.set_cons_zero, List.set_cons_succ]
      refine wpAnyH_take (i := 8) (oi := { dst := some 128, op := Op.fieldAddr 33 (Operand.tmp 15) 2, type := 0, pos := "law.go:276", after := #[{ on := 7, ground := Ground.guard }], guard := some (7, true) }) (v := ?_) rfl (by kernel_rfl) (by kernel_rfl) (by kernel_rfl) (fun _ _ _ h => h) (Or.inl ⟨by kernel_rfl, ?_⟩) hHeld ?_
      rotate_left
      · (intro w hSw; (try dsimp only at hSw); have e0 := cell_of_block hSw.1 0; have e6 := cell_of_block hSw.1 6; have g0 := cell_of_block hSw.2 0; go_simp); try with_reducible rfl
      try simp only [Act.put, List.setIfInBounds_toArray, List.set_cons_zero, List.set_cons_succ]
      refine wpAnyH_take (i := 9) (oi := { dst := some 129, op := Op.load 9 (Operand.tmp 128), type := 9, pos := "law.go:276", after := #[{ on := 8, ground := Ground.data }, { on := 7, ground := Ground.guard }], guard := some (7, true) }) (v := ?_) rfl (by kernel_rfl) (by kernel_rfl) (by kernel_rfl) (fun _ _ _ h => h) (Or.inl ⟨by kernel_rfl, ?_⟩) hHeld ?_
      rotate_left
      · (intro w hSw; (try dsimp only at hSw); have e0 := cell_of_block hSw.1 0; have e6 := cell_of_block hSw.1 6; have g0 := cell_of_block hSw.2 0; go_simp); try with_reducible rfl
      try simp only [Act.put, List.setIfInBounds_toArray, List.set_cons_zero, List.set_cons_succ]
      refine wpAnyH_ready (rs := [10]) (by kernel_rfl) (by simp) (AllReadyH.cons (o := { dst := some 130, op := Op.call { callee := Callee.value (Operand.func 15), args := #[Operand.const (Value.string { data := #[102, 105, 114, 115, 116] }), Operand.const (Value.int IntKind.i64 32)], argTypes := #[9, 3] }, type := 9, pos := "law.go:276", after := #[{ on := 7, ground := Ground.chain }, { on := 7, ground := Ground.guard }], guard := some (7, true) }) rfl (fun K hK => ?_) AllReadyH.nil)
      have hOld := hide hHeld
      clear hHeld
      go_simp
      refine (HFF.out _).mono ?_
      rintro e v2 ⟨rfl, hb⟩
      have Y2 := hide ((hb.block _ (heap_lt Y0.out)).trans Y0.out)
      have Z2 := hide ((hb.block _ (heap_lt Z0.out)).trans Z0.out)
      have T2 := hide (T0.out.trans (hb.mono T0.out.size))
      clear hb
      (try go_wp2_with fail)
      refine hK.out _ _ (⟨Y2.out, Z2.out⟩) (fun hHeld => ?_)
      clear hK K hOld
      try simp only [Act.put, List.setIfInBounds_toArray, List.set_cons_zero, List.set_cons_succ]
      refine wpAnyH_take (i := 11) (oi := { dst := some 131, op := Op.binOp BinOp.eql 9 (Operand.tmp 129) (Operand.tmp 130) 9, type := 4, pos := "law.go:276", after := #[{ on := 9, ground := Ground.data }, { on := 10, ground := Ground.data }, { on := 7, ground := Ground.guard }], guard := some (7, true) }) (v := ?_) rfl (by kernel_rfl) (by kernel_rfl) (by kernel_rfl) (fun _ _ _ h => h) (Or.inl ⟨by kernel_rfl, ?_⟩) hHeld ?_
      rotate_left
      · (intro w hSw; (try dsimp only at hSw); have e0 := cell_of_block hSw.1 0; have e6 := cell_of_block hSw.1 6; have g0 := cell_of_block hSw.2 0; go_simp); try with_reducible rfl
      try simp only [Act.put, List.setIfInBounds_toArray, List.set_cons_zero, List.set_cons_succ]
      refine wpAnyH_take (i := 12) (oi := { dst := some 132, op := Op.pick (Operand.tmp 127) (Operand.tmp 131) (Operand.const (Value.bool false)), type := 4, pos := "law.go:276", after := #[{ on := 7, ground := Ground.data }, { on := 11, ground := Ground.data }], guard := none }) (v := ?_) rfl (by kernel_rfl) (by kernel_rfl) (by kernel_rfl) (fun _ _ _ h => h) (Or.inl ⟨by kernel_rfl, ?_⟩) hHeld ?_
      rotate_left
      · (intro w hSw; (try dsimp only at hSw); have e0 := cell_of_block hSw.1 0; have e6 := cell_of_block hSw.1 6; have g0 := cell_of_block hSw.2 0; go_simp); try with_reducible rfl
      try simp only [Act.put, List.setIfInBounds_toArray, List.set_cons_zero, List.set_cons_succ]
      refine wpAnyH_take (i := 13) (oi := { dst := some 133, op := Op.move (Operand.tmp 132), type := 4, pos := "law.go:276", after := #[{ on := 12, ground := Ground.data }, { on := 10, ground := Ground.chain }], guard := none }) (v := ?_) rfl (by kernel_rfl) (by kernel_rfl) (by kernel_rfl) (fun _ _ _ h => h) (Or.inl ⟨by kernel_rfl, ?_⟩) hHeld ?_
      rotate_left
      · (intro w hSw; (try dsimp only at hSw); have e0 := cell_of_block hSw.1 0; have e6 := cell_of_block hSw.1 6; have g0 := cell_of_block hSw.2 0; go_simp); try with_reducible rfl
      try simp only [Act.put, List.setIfInBounds_toArray, List.set_cons_zero, List.set_cons_succ]
      refine wpAnyH_take (i := 14) (oi := { dst := some 134, op := Op.move (Operand.tmp 18), type := 23, pos := "law.go:276", after := #[{ on := 13, ground := Ground.guard }], guard := some (13, true) }) (v := ?_) rfl (by kernel_rfl) (by kernel_rfl) (by kernel_rfl) (fun _ _ _ h => h) (Or.inl ⟨by kernel_rfl, ?_⟩) hHeld ?_
      rotate_left
      · (intro w hSw; (try dsimp only at hSw); have e0 := cell_of_block hSw.1 0; have e6 := cell_of_block hSw.1 6; have g0 := cell_of_block hSw.2 0; go_simp); try with_reducible rfl
      try simp only [Act.put, List.setIfInBounds_toArray, List.set_cons_zero, List.set_cons_succ]
      refine wpAnyH_take (i := 15) (oi := { dst := some 135, op := Op.binOp BinOp.eql 23 (Operand.tmp 134) (Operand.const (Value.int IntKind.i64 0)) 23, type := 4, pos := "law.go:276", after := #[{ on := 14, ground := Ground.data }, { on := 13, ground := Ground.guard }], guard := some (13, true) }) (v := ?_) rfl (by kernel_rfl) (by kernel_rfl) (by kernel_rfl) (fun _ _ _ h => h) (Or.inl ⟨by kernel_rfl, ?_⟩) hHeld ?_
      rotate_left
      · (intro w hSw; (try dsimp only at hSw); have e0 := cell_of_block hSw.1 0; have e6 := cell_of_block hSw.1 6; have g0 := cell_of_block hSw.2 0; go_simp); try with_reducible rfl
      try simp only [Act.put, List.setIfInBounds_toArray, List.set_cons_zero, List.set_cons_succ]
      refine wpAnyH_take (i := 16) (oi := { dst := some 136, op := Op.pick (Operand.tmp 133) (Operand.tmp 135) (Operand.const (Value.bool false)), type := 4, pos := "law.go:276", after := #[{ on := 13, ground := Ground.data }, { on := 15, ground := Ground.data }], guard := none }) (v := ?_) rfl (by kernel_rfl) (by kernel_rfl) (by kernel_rfl) (fun _ _ _ h => h) (Or.inl ⟨by kernel_rfl, ?_⟩) hHeld ?_
      rotate_left
      · (intro w hSw; (try dsimp only at hSw); have e0 := cell_of_block hSw.1 0; have e6 := cell_of_block hSw.1 6; have g0 := cell_of_block hSw.2 0; go_simp); try with_reducible rfl
      try simp only [Act.put, List.setIfInBounds_toArray, List.set_cons_zero, List.set_cons_succ]
      refine wpAnyH_take (i := 17) (oi := { dst := some 137, op := Op.move (Operand.tmp 136), type := 4, pos := "law.go:276", after := #[{ on := 16, ground := Ground.data }, { on := 13, ground := Ground.chain }], guard := none }) (v := ?_) rfl (by kernel_rfl) (by kernel_rfl) (by kernel_rfl) (fun _ _ _ h => h) (Or.inl ⟨by kernel_rfl, ?_⟩) hHeld ?_
      rotate_left
      · (intro w hSw; (try dsimp only at hSw); have e0 := cell_of_block hSw.1 0; have e6 := cell_of_block hSw.1 6; have g0 := cell_of_block hSw.2 0; go_simp); try with_reducible rfl
      try simp only [Act.put, List.setIfInBounds_toArray, List.set_cons_zero, List.set_cons_succ]
      refine wpAnyH_take (i := 18) (oi := { dst := some 138, op := Op.fieldAddr 33 (Operand.tmp 17) 0, type := 0, pos := "law.go:276", after := #[{ on := 17, ground := Ground.guard }], guard := some (17, true) }) (v := ?_) rfl (by kernel_rfl) (by kernel_rfl) (by kernel_rfl) (fun _ _ _ h => h) (Or.inl ⟨by kernel_rfl, ?_⟩) hHeld ?_
      rotate_left
      · (intro w hSw; (try dsimp only at hSw); have e0 := cell_of_block hSw.1 0; have e6 := cell_of_block hSw.1 6; have g0 := cell_of_block hSw.2 0; go_simp); try with_reducible rfl
      try simp only [Act.put, List.setIfInBounds_toArray, List.set_cons_zero, List.set_cons_succ]
      refine wpAnyH_take (i := 19) (oi := { dst := some 139, op := Op.load 27 (Operand.tmp 138), type := 27, pos := "law.go:276", after := #[{ on := 18, ground := Ground.data }, { on := 17, ground := Ground.guard }], guard := some (17, true) }) (v := ?_) rfl (by kernel_rfl) (by kernel_rfl) (by kernel_rfl) (fun _ _ _ h => h) (Or.inl ⟨by kernel_rfl, ?_⟩) hHeld ?_
      rotate_left
      · (intro w hSw; (try dsimp only at hSw); have e0 := cell_of_block hSw.1 0; have e6 := cell_of_block hSw.1 6; have g0 := cell_of_block hSw.2 0; go_simp); try with_reducible rfl
      try simp only [Act.put, List.setIfInBounds_toArray, List.set_cons_zero, List.set_cons_succ]
      refine wpAnyH_take (i := 20) (oi := { dst := some 140, op := Op.binOp BinOp.neq 27 (Operand.tmp 139) (Operand.const (Value.int IntKind.i64 4)) 27, type := 4, pos := "law.go:276", after := #[{ on := 19, ground := Ground.data }, { on := 17, ground := Ground.guard }], guard := some (17, true) }) (v := ?_) rfl (by kernel_rfl) (by kernel_rfl) (by kernel_rfl) (fun _ _ _ h => h) (Or.inl ⟨by kernel_rfl, ?_⟩) hHeld ?_
      rotate_left
      · (intro w hSw; (try dsimp only at hSw); have e0 := cell_of_block hSw.1 0; have e6 := cell_of_block hSw.1 6; have g0 := cell_of_block hSw.2 0; go_simp); try with_reducible rfl
      try simp only [Act.put, List.setIfInBounds_toArray, List.set_cons_zero, List.set_cons_succ]
      refine wpAnyH_take (i := 21) (oi := { dst := some 141, op := Op.pick (Operand.tmp 137) (Operand.tmp 140) (Operand.const (Value.bool false)), type := 4, pos := "law.go:276", after := #[{ on := 17, ground := Ground.data }, { on := 20, ground := Ground.data }], guard := none }) (v := ?_) rfl (by kernel_rfl) (by kernel_rfl) (by kernel_rfl) (fun _ _ _ h => h) (Or.inl ⟨by kernel_rfl, ?_⟩) hHeld ?_
      rotate_left
      · (intro w hSw; (try dsimp only at hSw); have e0 := cell_of_block hSw.1 0; have e6 := cell_of_block hSw.1 6; have g0 := cell_of_block hSw.2 0; go_simp); try with_reducible rfl
      try simp only [Act.put, List.setIfInBounds_toArray, List.set_cons_zero, List.set_cons_succ]
      refine wpAnyH_take (i := 22) (oi := { dst := some 142, op := Op.move (Operand.tmp 141), type := 4, pos := "law.go:276", after := #[{ on := 21, ground := Ground.data }, { on := 17, ground := Ground.chain }], guard := none }) (v := ?_) rfl (by kernel_rfl) (by kernel_rfl) (by kernel_rfl) (fun _ _ _ h => h) (Or.inl ⟨by kernel_rfl, ?_⟩) hHeld ?_
      rotate_left
      · (intro w hSw; (try dsimp only at hSw); have e0 := cell_of_block hSw.1 0; have e6 := cell_of_block hSw.1 6; have g0 := cell_of_block hSw.2 0; go_simp); try with_reducible rfl
      try simp only [Act.put, List.setIfInBounds_toArray, List.set_cons_zero, List.set_cons_succ]
      refine wpAnyH_take (i := 23) (oi := { dst := some 143, op := Op.fieldAddr 33 (Operand.tmp 17) 0, type := 0, pos := "law.go:276", after := #[{ on := 22, ground := Ground.guard }], guard := some (22, true) }) (v := ?_) rfl (by kernel_rfl) (by kernel_rfl) (by kernel_rfl) (fun _ _ _ h => h) (Or.inl ⟨by kernel_rfl, ?_⟩) hHeld ?_
      rotate_left
      · (intro w hSw; (try dsimp only at hSw); have e0 := cell_of_block hSw.1 0; have e6 := cell_of_block hSw.1 6; have g0 := cell_of_block hSw.2 0; go_simp); try with_reducible rfl
      try simp only [Act.put, List.setIfInBounds_toArray, List.set_cons_zero, List.set_cons_succ]
      refine wpAnyH_take (i := 24) (oi := { dst := some 144, op := Op.load 27 (Operand.tmp 143), type := 27, pos := "law.go:276", after := #[{ on := 23, ground := Ground.data }, { on := 22, ground := Ground.guard }], guard := some (22, true) }) (v := ?_) rfl (by kernel_rfl) (by kernel_rfl) (by kernel_rfl) (fun _ _ _ h => h) (Or.inl ⟨by kernel_rfl, ?_⟩) hHeld ?_
      rotate_left
      · (intro w hSw; (try dsimp only at hSw); have e0 := cell_of_block hSw.1 0; have e6 := cell_of_block hSw.1 6; have g0 := cell_of_block hSw.2 0; go_simp); try with_reducible rfl
      try simp only [Act.put, List.setIfInBounds_toArray, List.set_cons_zero, List.set_cons_succ]
      refine wpAnyH_take (i := 25) (oi := { dst := some 145, op := Op.binOp BinOp.neq 27 (Operand.tmp 144) (Operand.const (Value.int IntKind.i64 1)) 27, type := 4, pos := "law.go:276", after := #[{ on := 24, ground := Ground.data }, { on := 22, ground := Ground.guard }], guard := some (22, true) }) (v := ?_) rfl (by kernel_rfl) (by kernel_rfl) (by kernel_rfl) (fun _ _ _ h => h) (Or.inl ⟨by kernel_rfl, ?_⟩) hHeld ?_
      rotate_left
      · (intro w hSw; (try dsimp only at hSw); have e0 := cell_of_block hSw.1 0; have e6 := cell_of_block hSw.1 6; have g0 := cell_of_block hSw.2 0; go_simp); try with_reducible rfl
      try simp only [Act.put, List.setIfInBounds_toArray, List.set_cons_zero, List.set_cons_succ]
      refine wpAnyH_take (i := 26) (oi := { dst := some 146, op := Op.pick (Operand.tmp 142) (Operand.tmp 145) (Operand.const (Value.bool false)), type := 4, pos := "law.go:276", after := #[{ on := 22, ground := Ground.data }, { on := 25, ground := Ground.data }], guard := none }) (v := ?_) rfl (by kernel_rfl) (by kernel_rfl) (by kernel_rfl) (fun _ _ _ h => h) (Or.inl ⟨by kernel_rfl, ?_⟩) hHeld ?_
      rotate_left
      · (intro w hSw; (try dsimp only at hSw); have e0 := cell_of_block hSw.1 0; have e6 := cell_of_block hSw.1 6; have g0 := cell_of_block hSw.2 0; go_simp); try with_reducible rfl
      try simp only [Act.put, List.setIfInBounds_toArray, List.set_cons_zero, List.set_cons_succ]
      refine wpAnyH_take (i := 27) (oi := { dst := some 4, op := Op.assign (Operand.tmp 146), type := 4, pos := "law.go:276", after := #[{ on := 26, ground := Ground.data }, { on := 22, ground := Ground.chain }, { on := 0, ground := Ground.phase }, { on := 1, ground := Ground.phase }, { on := 2, ground := Ground.phase }, { on := 3, ground := Ground.phase }, { on := 4, ground := Ground.phase }, { on := 5, ground := Ground.phase }, { on := 6, ground := Ground.phase }, { on := 7, ground := Ground.phase }, { on := 8, ground := Ground.phase }, { on := 9, ground := Ground.phase }, { on := 10, ground := Ground.phase }, { on := 11, ground := Ground.phase }, { on := 12, ground := Ground.phase }, { on := 13, ground := Ground.phase }, { on := 14, ground := Ground.phase }, { on := 15, ground := Ground.phase }, { on := 16, ground := Ground.phase }, { on := 17, ground := Ground.phase }, { on := 18, ground := Ground.phase }, { on := 19, ground := Ground.phase }, { on := 20, ground := Ground.phase }, { on := 21, ground := Ground.phase }, { on := 22, ground := Ground.phase }, { on := 23, ground := Ground.phase }, { on := 24, ground := Ground.phase }, { on := 25, ground := Ground.phase }, { on := 26, ground := Ground.phase }], guard := none }) (v := ?_) rfl (by kernel_rfl) (by kernel_rfl) (by kernel_rfl) (fun _ _ _ h => h) (Or.inl ⟨by kernel_rfl, ?_⟩) hHeld ?_
      rotate_left
      · (intro w hSw; (try dsimp only at hSw); have e0 := cell_of_block hSw.1 0; have e6 := cell_of_block hSw.1 6; have g0 := cell_of_block hSw.2 0; go_simp); try with_reducible rfl
      try simp only [Act.put, List.setIfInBounds_toArray, List.set_cons_zero, List.set_cons_succ]
      refine wpAnyH_done (by kernel_rfl) ?_ _
      clear hHeld
      go_wp2_with fail
      go_ret
      exact ⟨rfl, T2.out⟩

set_option maxRecDepth 100000 in
theorem driveTorn_lifted (os : Os) (started : os.Started) (H : Type) (enc : TypeId × Value → H) :
    ReturnsInHanded {} Try.checked os 4 .any (Rows.driveTornSpec.pre6 enc Try.prog Try.f4 Rows.driveTornRow.domain false) (Rows.driveTornSpec.post enc Try.prog Try.f4 false true false false) := by
  refine returnsInHanded_of_change (C := Try.checked) own started (by kernel_rfl) Try.func4
    (ChangeSpec.witness6 (enc := enc) (C := Try.checked) false ⟨#[], #[.int .u8 0, .int .u8 0], []⟩ 8 (by kernel_rfl) (by kernel_rfl) (by kernel_rfl) (by kernel_rfl)) ?_
  intro W base args ds gs before hval0 hW _ _
  have hval : ∀ (j : Nat) t v, Try.f4.params[j]? = some t → args[j]? = some v → Value.okWide Try.prog W .any base t v := hval0
  have hW' := hW
  obtain ⟨p, q, hA0, hV, rfl, hfz, hnd⟩ := hW
  have hA : DataW.TrodAll enc Try.prog W 0 (fun _ => true) true Try.f4.params.toList args.toList ds p := hA0
  rw [Try.params4] at hA hval
  obtain ⟨v0, vs0, d0, ds0, p0, q0, hargs, rfl, rfl, h0, r0⟩ := trodAll_cons hA
  obtain ⟨v1, vs1, d1, ds1, p1, q1, rfl, rfl, rfl, h1, r1⟩ := trodAll_cons r0
  obtain ⟨rfl, rfl, rfl⟩ := trodAll_nil r1
  obtain rfl : args = #[v0, v1] := by cases args; simp_all
  obtain ⟨rfl, rfl⟩ := trodVars_none hV
  obtain ⟨n, rfl, rfl, rfl, w0⟩ := open_int Try.underlying5 (hval 0 5 v0 rfl rfl) h0
  have z0 := wf_u8 w0
  obtain ⟨cut, rfl, rfl, rfl, w1⟩ := open_int Try.underlying5 (hval 1 5 v1 rfl rfl) h1
  have z1 := wf_u8 w1
  clear hA0 hval0
  refine (driveTorn_walk n z0.1 z0.2 cut z1.1 z1.2 W).mono fun e W' ⟨he, hb⟩ => ?_
  subst he
  exact ⟨_, rfl, post_law laidOut (of_decide_eq_true (by kernel_rfl)) rfl rfl Try.underlying4 hW' ⟨rfl, rfl, rfl⟩ hb⟩

/-- THE STATEMENT -/
theorem driveTorn_holds : Rows.DriveTornSaid :=
  OpenClaim.holds_of_wide 4 Try.f4 rfl rfl rfl rfl rfl rfl rfl ⟨rfl, rfl, rfl, rfl, rfl⟩ rfl rfl rfl rfl rfl (by kernel_rfl) Try.func4 (by kernel_rfl)
    (of_decide_eq_true (by kernel_rfl)) (by unfold Func.isWrapper; first | (rw [if_pos (by decide +kernel)]; kernel_rfl) | (rw [if_neg (by decide +kernel)]; exact ⟨rfl, rfl⟩))
    (fun os started H enc _ => driveTorn_lifted os started H enc)

end Go.Proofs.Ytoneolpjeonpaaa
