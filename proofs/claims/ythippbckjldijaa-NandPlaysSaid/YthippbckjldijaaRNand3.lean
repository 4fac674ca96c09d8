/-
  Layer 5, the document's calls, third part: Program where it isn't cut.
-/
import Derived.Test.YthippbckjldijaaRNand2
--import Derived.Test.Zdbg
namespace Go.Proofs.Ythippbckjldijaa
set_option linter.unusedSimpArgs false
set_option linter.unusedVariables false
open Go.RowKit Go.WideShapes Go.ChangeShapes Go.ChangeAt Go.Deep

section
variable {c pq n e a f m cp B : Nat} {G : Nat → Nat} {S : ChipM}
theorem rprog_ask (b i : Int) (d t : ByteArray) (w : World) (h : RefAt w c pq n e a f m cp G B S) (ha : askE S b i ≠ 0) :
    Calls Try.prog 15 #[.pointer (some ⟨c, 0, none⟩), .int .i64 b, .int .i64 i, .string d, .string t] w (RefIs c pq n e a f m cp G B S (.int .i64 (askE S b i)) w) := by
  have HASK := hide (ready_any b i w h)
  have HH := hide h
  clear h
  generalize askE S b i = ae at *
  go_enter Try.func15, Try.ntmps15
  go_wp2_with fail
  refine HASK.out.mono ?_
  rintro e0 w1 ⟨rfl, rfl⟩
  go_wp2_with fail
  go_ret
  exact ⟨rfl, HH.out, RTurn.refl _ _⟩
set_option maxRecDepth 100000 in
theorem rprog_arg (b i : Int) (d t : ByteArray) (w : World) (h : RefAt w c pq n e a f m cp G B S) (ha : askE S b i = 0) (hd : d.size ≠ S.size ∨ t.size ≠ 32) :
    Calls Try.prog 15 #[.pointer (some ⟨c, 0, none⟩), .int .i64 b, .int .i64 i, .string d, .string t] w (RefIs c pq n e a f m cp G B S (.int .i64 2) w) := by
  have HASK := hide (ready_any b i w h)
  rw [ha] at HASK
  have HH := hide h
  have c2 : w.cell? ⟨c, 2, none⟩ = some (.int .i64 (S.size : Int)) := h.cell 2
  clear h ha
  by_cases h1 : d.size = S.size
  · have h2 : ¬ t.size = 32 := by rcases hd with hd | hd; exact absurd h1 hd; exact hd
    have hdI : (d.size : Int) = (S.size : Int) := by rw [h1]
    have heI : ¬ (t.size : Int) = 32 := by omega
    clear hd h1 h2
    go_enter Try.func15, Try.ntmps15
    go_wp2_with fail
    refine HASK.out.mono ?_
    rintro e0 w1 ⟨rfl, rfl⟩
    go_wp2_with fail
    go_ret
    exact ⟨rfl, HH.out, RTurn.refl _ _⟩
  · have hdI : ¬ (d.size : Int) = (S.size : Int) := by omega
    clear hd h1
    go_enter Try.func15, Try.ntmps15
    go_wp2_with fail
    refine HASK.out.mono ?_
    rintro e0 w1 ⟨rfl, rfl⟩
    go_wp2_with fail
    go_ret
    exact ⟨rfl, HH.out, RTurn.refl _ _⟩
set_option maxRecDepth 100000 in
set_option maxHeartbeats 400000 in
theorem rprog_sin (hS : NandOk S) (k i : Nat) (d t : ByteArray) (w : World) (h : RefAt w c pq n e a f m cp G B S) (ha : askE S (k : Int) (i : Int) = 0) (hd : d.size = S.size) (he : t.size = 32)
    (hE : sinE (S.blk k) (decide ((i : Int) ≠ (S.blk k).next)) ≠ 0) :
    Calls Try.prog 15 #[.pointer (some ⟨c, 0, none⟩), .int .i64 (k : Int), .int .i64 (i : Int), .string d, .string t] w (RefIs c pq n e a f m cp G B (sinS S k (decide ((i : Int) ≠ (S.blk k).next))) (.int .i64 (sinE (S.blk k) (decide ((i : Int) ≠ (S.blk k).next)))) w) := by
  obtain ⟨ho, -, hk', -, hi'⟩ := askE_in ha
  have hk : k < S.L.length := by omega
  have hi : i < S.pgs := by omega
  have hfew := h.few
  have HASK := hide (ready_any (k : Int) (i : Int) w h)
  rw [ha] at HASK
  have c2 : w.cell? ⟨c, 2, none⟩ = some (.int .i64 (S.size : Int)) := h.cell 2
  have c7 : w.cell? ⟨c, 7, none⟩ = some (.slice (some ⟨f, 0, none⟩) S.L.length S.L.length) := h.cell 7
  have c4 : w.cell? ⟨c, 4, none⟩ = some (.slice (some ⟨n, 0, none⟩) S.L.length S.L.length) := h.cell 4
  have dn := (h.at_next k hk).1
  have fn := (h.at_next k hk).2
  have df := (h.at_fail k hk).1
  have hdI : (d.size : Int) = (S.size : Int) := by rw [hd]
  have heI : (t.size : Int) = 32 := by rw [he]; rfl
  have HR := hide (show sinS S k (decide ((i : Int) ≠ (S.blk k).next)) = { S with sins := S.sins + 1 } by unfold sinS; rw [if_neg hE])
  rw [HR.out]
  have hw : IntKind.i64.wrap (S.sins + 1) = S.sins + 1 := by rw [IntKind.wrap_i64]; have := hS.sins; omega
  have c14 : w.cell? ⟨c, 14, none⟩ = some (.int .i64 S.sins) := h.cell 14
  have f14 := h.free 14
  have N1 := hide (h.setHead 14 (.int .i64 (S.sins + 1)) { S with sins := S.sins + 1 } rfl rfl rfl)
  have T1 := hide (h.turnHead 14 (.int .i64 (S.sins + 1)))
  obtain ⟨E, hEE⟩ : ∃ E, sinE (S.blk k) (decide ((i : Int) ≠ (S.blk k).next)) = E := ⟨_, rfl⟩
  rw [hEE] at hE ⊢
  unfold sinE at hEE
  clear h ha hS HR hd he
  by_cases h1 : (S.blk k).failed = true ∨ (S.blk k).mill = true
  · rw [if_pos h1] at hEE
    have HE := hide hEE
    have hb : ((S.blk k).failed || (S.blk k).mill) = true := by rcases h1 with h1 | h1 <;> rw [h1] <;> simp
    rw [hb] at df
    clear hEE h1 hb
    go_enter Try.func15, Try.ntmps15
    go_wp2_with fail
    refine HASK.out.mono ?_
    rintro e0 w1 ⟨rfl, rfl⟩
    go_wp2_with fail
    go_ret
    exact ⟨ret_int HE.out, N1.out, T1.out⟩
  · rw [if_neg h1] at hEE
    have hb : ((S.blk k).failed || (S.blk k).mill) = false := by
      cases h2 : (S.blk k).failed <;> cases h3 : (S.blk k).mill <;> simp [h2, h3] at h1 ⊢
    rw [hb] at df
    by_cases h4 : (i : Int) = (S.blk k).next
    · rw [if_neg (by simpa using h4)] at hEE
      exact absurd hEE.symm hE
    · rw [if_pos (by simpa using h4)] at hEE
      have HE := hide hEE
      have h5 : ((i : Int) != (S.blk k).next) = true := by simpa using h4
      generalize (S.blk k).next = nx at *
      clear hEE h1 hb
      go_enter Try.func15, Try.ntmps15
      go_wp2_with fail
      refine HASK.out.mono ?_
      rintro e0 w1 ⟨rfl, rfl⟩
      go_wp2_with fail
      go_ret
      exact ⟨ret_int HE.out, N1.out, T1.out⟩
theorem repeatL_at (l : List UInt8) : ∀ r i, i < r * l.length → (Lib.repeatL l r)[i]? = l[i % l.length]?
  | 0, i, h => by omega
  | r + 1, i, h => by
    show (l ++ Lib.repeatL l r)[i]? = _
    by_cases h1 : i < l.length
    · rw [List.getElem?_append_left h1, Nat.mod_eq_of_lt h1]
    · rw [List.getElem?_append_right (by omega), repeatL_at l r (i - l.length) (by rw [Nat.add_mul] at h; omega)]
      rw [Nat.mod_eq_sub_mod (a := i) (b := l.length) (by omega)]
/-- a text again and again, byte for byte -/
def tornZ (m : Nat) (t : ByteArray) : ByteArray := ⟨((List.range m).map fun i => t.get! (i % t.size)).toArray⟩
theorem filled_torn (n : Nat) (t : ByteArray) (ht : 1 ≤ t.size) : (filledP n t).1 ++ (filledP n t).2 = tornZ (n + 32) t := by
  have hs := againB_size n t ht
  have e1 : (filledP n t).1 ++ (filledP n t).2 = (againB n t).extract 0 (n + 32) := by
    unfold filledP
    dsimp only
    apply ByteArray.ext
    simp [ByteArray.data_extract]
  rw [e1]
  apply ByteArray.ext
  apply Array.toList_inj.1
  apply List.ext_getElem?
  intro i
  have hd : (againB n t).data.toList = Lib.repeatL t.data.toList ((n + 32) / t.size + 1) := rfl
  have e2 : ((againB n t).extract 0 (n + 32)).data.toList = (Lib.repeatL t.data.toList ((n + 32) / t.size + 1)).take (n + 32) := by
    rw [ByteArray.data_extract, Array.toList_extract, hd]
    simp [List.extract]
  rw [e2]
  by_cases hi : i < n + 32
  · rw [List.getElem?_take, if_pos hi, repeatL_at _ _ _ (by
      have h2 := Nat.div_add_mod (n + 32) t.size
      have h3 := Nat.mod_lt (n + 32) ht
      rw [Nat.add_mul, Nat.one_mul]
      show i < (n + 32) / t.size * t.size + t.size
      rw [Nat.mul_comm]
      omega)]
    show _ = ((List.range (n + 32)).map fun i => t.get! (i % t.size))[i]?
    rw [List.getElem?_map, List.getElem?_range hi]
    show t.data.toList[i % t.size]? = some (t.get! (i % t.size))
    have h3 := Nat.mod_lt i ht
    have h4 : i % t.size < t.data.toList.length := h3
    rw [List.getElem?_eq_getElem h4]
    congr 1
    show t.data[i % t.size] = t.data[i % t.size]!
    rw [getElem!_pos t.data (i % t.size) h3]
  · rw [List.getElem?_take, if_neg hi]
    show _ = ((List.range (n + 32)).map fun i => t.get! (i % t.size))[i]?
    rw [List.getElem?_map, List.getElem?_eq_none (by simpa using hi)]
    rfl
theorem filled_one (n : Nat) (b : UInt8) : (filledP n ⟨#[b]⟩).1 ++ (filledP n ⟨#[b]⟩).2 = fillZ (n + 32) b := by
  rw [filled_torn n ⟨#[b]⟩ (by show 1 ≤ 1; omega)]
  unfold tornZ fillZ
  congr 1
  congr 1
  apply List.ext_getElem
  · simp
  · intro i h1 h2
    simp [show (ByteArray.mk #[b]).size = 1 from rfl, Nat.mod_one]
    rfl
theorem held27 {W : World} {S6 : ChipM} {k l g z : Nat} (h : RefAt W c pq n e a f m cp G B S6) (hl : S6.L.length = l) (hp : S6.pgs = g) (hz : S6.size = z) (hk : k < l) :
    W.cell? ⟨c, 3, none⟩ = some (.slice (some ⟨pq, 0, none⟩) l cp) ∧ W.cell? ⟨c, 2, none⟩ = some (.int .i64 (z : Int)) ∧ W.cell? ⟨pq, k, none⟩ = some (.slice (some ⟨G k, 0, none⟩) g g) := by
  subst hl hp hz
  exact ⟨h.cell 3, h.cell 2, h.at_row k hk⟩
set_option maxRecDepth 100000 in
set_option maxHeartbeats 2000000 in
theorem rprog_go (hS : NandOk S) (k i : Nat) (d t : ByteArray) (w : World) (h : RefAt w c pq n e a f m cp G B S) (ha : askE S (k : Int) (i : Int) = 0) (hd : d.size = S.size) (he : t.size = 32) (hf : (S.blk k).failed = false) (hm : (S.blk k).mill = false) (hnx : (S.blk k).next = (i : Int)) (hfz : ¬ S.fuse = 1) :
    Calls Try.prog 15 #[.pointer (some ⟨c, 0, none⟩), .int .i64 (k : Int), .int .i64 (i : Int), .string d, .string t] w (RefIs c pq n e a f m cp G B (progS S k i d t) (.int .i64 (progE S k)) w) := by
  obtain ⟨ho, -, hk', -, hi'⟩ := askE_in ha
  have hk : k < S.L.length := by omega
  have hi : i < S.pgs := by omega
  have hfew := h.few
  have HASK := hide (ready_any (k : Int) (i : Int) w h)
  rw [ha] at HASK
  have c2 : w.cell? ⟨c, 2, none⟩ = some (.int .i64 (S.size : Int)) := h.cell 2
  have c7 : w.cell? ⟨c, 7, none⟩ = some (.slice (some ⟨f, 0, none⟩) S.L.length S.L.length) := h.cell 7
  have c4 : w.cell? ⟨c, 4, none⟩ = some (.slice (some ⟨n, 0, none⟩) S.L.length S.L.length) := h.cell 4
  have dn := (h.at_next k hk).1
  have fn := (h.at_next k hk).2
  have df := (h.at_fail k hk).1
  have hdI : (d.size : Int) = (S.size : Int) := by rw [hd]
  have heI : (t.size : Int) = 32 := by rw [he]; rfl
  have c12 : w.cell? ⟨c, 12, none⟩ = some (.int .i64 S.progs) := h.cell 12
  have f12 := h.free 12
  rw [hf, hm] at df
  rw [hnx] at dn
  have hw1 : IntKind.i64.wrap ((i : Int) + 1) = (i : Int) + 1 := by rw [IntKind.wrap_i64]; omega
  have hw2 : IntKind.i64.wrap (S.progs + 1) = S.progs + 1 := by rw [IntKind.wrap_i64]; have := hS.progs; omega
  have hN1 := h.setNext k hk ((i : Int) + 1)
  have hT1 := h.turnNext k (.int .i64 ((i : Int) + 1))
  have N2 := hide (hN1.setHead 12 (.int .i64 (S.progs + 1)) (progsS (S.put k { S.blk k with next := (i : Int) + 1 })) rfl rfl rfl)
  have T2 := hide (hT1.trans (hN1.turnHead 12 (.int .i64 (S.progs + 1))))
  have HNC := hide (ne_of_type h.next h.head (by decide))
  have hnc := HNC.out
  have HOK := hide hS
  have hd' := hd
  have he' := he
  clear h ha hS hd he hN1 hT1
  go_enter Try.func15, Try.ntmps15
  go_wp2_with fail
  refine HASK.out.mono ?_
  rintro e0 w1 ⟨rfl, rfl⟩
  go_wp2_with fail
  clear c2 c7 c4 dn fn df c12 f12 HASK hdI heI
  generalize (w.setCell ⟨n, k, none⟩ (.int .i64 ((i : Int) + 1))).setCell ⟨c, 12, none⟩ (.int .i64 (S.progs + 1)) = w2 at *
  have HC := hide (rcut_any (S := progsS (S.put k { S.blk k with next := (i : Int) + 1 })) ho HOK.out.fuse.1 HOK.out.fuse.2 w2 N2.out)
  obtain ⟨S3, hS3⟩ : ∃ S3, S3 = cutS (progsS (S.put k { S.blk k with next := (i : Int) + 1 })) := ⟨_, rfl⟩
  have hb3 : S3.blk k = { S.blk k with next := (i : Int) + 1 } := by
    rw [hS3, cut_blk]
    exact blk_put_self S k _ hk
  have hl3 : S3.L.length = S.L.length := by rw [hS3, cut_len]; exact put_length S k _
  have hg3 : S3.pgs = S.pgs := by rw [hS3, cut_pgs]; rfl
  have hz3 : S3.size = S.size := by rw [hS3, cut_size]; rfl
  have ht3 : S3.torn = S.torn := by rw [hS3, cut_torn]; rfl
  have HPS := hide (show progS S k i d t = if S.fuse = 1 then S3.put k { S3.blk k with pages := (S3.blk k).pages.set i (tornP S3) }
    else if (S.blk k).weak = true then S3.put k { S3.blk k with pages := (S3.blk k).pages.set i (filledP S.size zeroB), failed := true }
    else S3.put k { S3.blk k with pages := (S3.blk k).pages.set i (d, t) } by rw [hS3]; rfl)
  have HPE := hide (show progE S k = if S.fuse = 1 then 9 else if (S.blk k).weak = true then 10 else 0 from rfl)
  rw [show cutS (progsS (S.put k { S.blk k with next := (i : Int) + 1 })) = S3 from hS3.symm] at HC
  rw [show (progsS (S.put k { S.blk k with next := (i : Int) + 1 })).fuse = S.fuse from rfl] at HC
  have HWK := hide (show ((S3.blk k).weak || (S3.blk k).mill) = (S.blk k).weak by rw [hb3]; show ((S.blk k).weak || (S.blk k).mill) = _; rw [hm, Bool.or_false])
  have HMI := hide (show (true || (S3.blk k).mill) = true from rfl)
  have hk3 : k < S3.L.length := by omega
  have hi3 : i < S3.pgs := by omega
  clear hS3 hb3
  rw [decide_eq_false hfz] at HC
  refine HC.out.mono ?_
  rintro e0 w4 ⟨rfl, hn, ht⟩
  have N4 := hide hn
  have T4 := hide (T2.out.trans ht)
  clear hn ht HC N2 T2
  have c6 : w4.cell? ⟨c, 6, none⟩ = some (.slice (some ⟨a, 0, none⟩) S3.L.length S3.L.length) := N4.out.cell 6
  have c3 : w4.cell? ⟨c, 3, none⟩ = some (.slice (some ⟨pq, 0, none⟩) S3.L.length cp) := N4.out.cell 3
  have da : w4.cell? ⟨a, k, none⟩ = some (.bool (S.blk k).weak) := by rw [← HWK.out]; exact (N4.out.at_weak k hk3).1
  cases hwk : (S.blk k).weak with
  | true =>
    rw [hwk] at da
    have c7 : w4.cell? ⟨c, 7, none⟩ = some (.slice (some ⟨f, 0, none⟩) S3.L.length S3.L.length) := N4.out.cell 7
    have df := (N4.out.at_fail k hk3).1
    have ff := (N4.out.at_fail k hk3).2
    have N5 := N4.out.setFail k hk3 true
    rw [HMI.out] at N5
    have T5 := hide (T4.out.trans (N4.out.turnFail k (.bool true)))
    have hl5 := put_length S3 k { S3.blk k with failed := true }
    have hb5 := blk_put_self S3 k { S3.blk k with failed := true } hk3
    have HP5 := hide (fun (y : BlkM) => put_put S3 k { S3.blk k with failed := true } y)
    have hg5 : (S3.put k { S3.blk k with failed := true }).pgs = S3.pgs := rfl
    have hz5 : (S3.put k { S3.blk k with failed := true }).size = S3.size := rfl
    have HFR := hide (show progS S k i d t = S3.put k { S3.blk k with pages := (S3.blk k).pages.set i (filledP S.size zeroB), failed := true } by rw [HPS.out, if_neg hfz, if_pos hwk])
    have HN5 := hide N5
    generalize S3.put k { S3.blk k with failed := true } = S5 at *
    have HB5 := hide hb5
    have HFI := hide (show ∀ W, Calls Try.prog 43 #[.int .i64 ((S.size : Int) + 32), .int .u8 0] W fun e w' => e = .returned (.string (fillZ (S.size + 32) 0)) ∧ Below W.heap.size W w' from fun W => fill_any (S.size + 32) (by have := HOK.out.size; omega) 0 W)
    have hk5 : k < S5.L.length := by omega
    have hi5 : i < S5.pgs := by omega
    have hzs : S5.size = S.size := by omega
    have HFO := hide (filled_one S.size 0)
    rw [show (⟨#[0]⟩ : ByteArray) = zeroB from rfl] at HFO
    have hwz := hide (show IntKind.i64.wrap ((S.size : Int) + 32) = (S.size : Int) + 32 by rw [IntKind.wrap_i64]; have := HOK.out.size; omega)
    clear N5 hb5 HPS
    go_upto_region 27 with (fail)
    clear c3 c6 c7 da df ff N4 T4
    have NV := hide HN5.out.drew
    have TV := hide T5.out.drew
    clear HN5 T5
    generalize w4.setCell ⟨f, k, none⟩ (.bool true) = w5 at *
    --BEGIN27
    refine wp_region_held_drew (S := (fun W => W.cell? ⟨c, 3, none⟩ = some (.slice (some ⟨pq, 0, none⟩) S5.L.length cp) ∧ W.cell? ⟨c, 2, none⟩ = some (.int .i64 (S.size : Int)) ∧ W.cell? ⟨pq, k, none⟩ = some (.slice (some ⟨G k, 0, none⟩) S5.pgs S5.pgs))) (by kernel_rfl) (held27 NV.out rfl rfl hzs hk5) (fun hHeld => ?_)
    generalize w5.drew = v0 at *
    refine wpAnyH_take (i := 0) (oi := { dst := some 140, op := Op.move (Operand.tmp 0), type := 32, pos := "ref.go:142", after := #[], guard := none }) (v := ?_) rfl (by kernel_rfl) (by kernel_rfl) (by kernel_rfl) (fun _ _ _ h => h) (Or.inl ⟨by kernel_rfl, ?_⟩) hHeld ?_
    rotate_left
    · (intro w hSw; (try dsimp only at hSw); go_simp); try with_reducible rfl
    try simp only [Act.put, List.setIfInBounds_toArray, List.set_cons_zero, List.set_cons_succ]
    refine wpAnyH_take (i := 1) (oi := { dst := some 141, op := Op.nilCheck (Operand.tmp 140), type := 0, pos := "ref.go:142", after := #[{ on := 0, ground := Ground.data }], guard := none }) (v := ?_) rfl (by kernel_rfl) (by kernel_rfl) (by kernel_rfl) (fun _ _ _ h => h) (Or.inl ⟨by kernel_rfl, ?_⟩) hHeld ?_
    rotate_left
    · (intro w hSw; (try dsimp only at hSw); go_simp); try with_reducible rfl
    try simp only [Act.put, List.setIfInBounds_toArray, List.set_cons_zero, List.set_cons_succ]
    refine wpAnyH_take (i := 2) (oi := { dst := some 142, op := Op.fieldAddr 48 (Operand.tmp 141) 3, type := 0, pos := "ref.go:142", after := #[{ on := 1, ground := Ground.data }], guard := none }) (v := ?_) rfl (by kernel_rfl) (by kernel_rfl) (by kernel_rfl) (fun _ _ _ h => h) (Or.inl ⟨by kernel_rfl, ?_⟩) hHeld ?_
    rotate_left
    · (intro w hSw; (try dsimp only at hSw); go_simp); try with_reducible rfl
    try simp only [Act.put, List.setIfInBounds_toArray, List.set_cons_zero, List.set_cons_succ]
    refine wpAnyH_take (i := 3) (oi := { dst := some 143, op := Op.load 45 (Operand.tmp 142), type := 45, pos := "ref.go:142", after := #[{ on := 2, ground := Ground.data }], guard := none }) (v := ?_) rfl (by kernel_rfl) (by kernel_rfl) (by kernel_rfl) (fun _ _ _ h => h) (Or.inl ⟨by kernel_rfl, ?_⟩) hHeld ?_
    rotate_left
    · (intro w hSw; (try dsimp only at hSw); go_simp); try with_reducible rfl
    try simp only [Act.put, List.setIfInBounds_toArray, List.set_cons_zero, List.set_cons_succ]
    refine wpAnyH_take (i := 4) (oi := { dst := some 144, op := Op.move (Operand.tmp 1), type := 3, pos := "ref.go:142", after := #[], guard := none }) (v := ?_) rfl (by kernel_rfl) (by kernel_rfl) (by kernel_rfl) (fun _ _ _ h => h) (Or.inl ⟨by kernel_rfl, ?_⟩) hHeld ?_
    rotate_left
    · (intro w hSw; (try dsimp only at hSw); go_simp); try with_reducible rfl
    try simp only [Act.put, List.setIfInBounds_toArray, List.set_cons_zero, List.set_cons_succ]
    refine wpAnyH_take (i := 5) (oi := { dst := some 145, op := Op.indexAddr 45 (Operand.tmp 143) (Operand.tmp 144), type := 0, pos := "ref.go:142", after := #[{ on := 3, ground := Ground.data }, { on := 4, ground := Ground.data }], guard := none }) (v := ?_) rfl (by kernel_rfl) (by kernel_rfl) (by kernel_rfl) (fun _ _ _ h => h) (Or.inl ⟨by kernel_rfl, ?_⟩) hHeld ?_
    rotate_left
    · (intro w hSw; (try dsimp only at hSw); go_simp); try with_reducible rfl
    try simp only [Act.put, List.setIfInBounds_toArray, List.set_cons_zero, List.set_cons_succ]
    refine wpAnyH_take (i := 6) (oi := { dst := some 146, op := Op.load 82 (Operand.tmp 145), type := 82, pos := "ref.go:142", after := #[{ on := 5, ground := Ground.data }], guard := none }) (v := ?_) rfl (by kernel_rfl) (by kernel_rfl) (by kernel_rfl) (fun _ _ _ h => h) (Or.inl ⟨by kernel_rfl, ?_⟩) hHeld ?_
    rotate_left
    · (intro w hSw; (try dsimp only at hSw); go_simp); try with_reducible rfl
    try simp only [Act.put, List.setIfInBounds_toArray, List.set_cons_zero, List.set_cons_succ]
    refine wpAnyH_take (i := 7) (oi := { dst := some 147, op := Op.move (Operand.tmp 2), type := 3, pos := "ref.go:142", after := #[], guard := none }) (v := ?_) rfl (by kernel_rfl) (by kernel_rfl) (by kernel_rfl) (fun _ _ _ h => h) (Or.inl ⟨by kernel_rfl, ?_⟩) hHeld ?_
    rotate_left
    · (intro w hSw; (try dsimp only at hSw); go_simp); try with_reducible rfl
    try simp only [Act.put, List.setIfInBounds_toArray, List.set_cons_zero, List.set_cons_succ]
    refine wpAnyH_take (i := 8) (oi := { dst := some 148, op := Op.move (Operand.tmp 0), type := 32, pos := "ref.go:142", after := #[], guard := none }) (v := ?_) rfl (by kernel_rfl) (by kernel_rfl) (by kernel_rfl) (fun _ _ _ h => h) (Or.inl ⟨by kernel_rfl, ?_⟩) hHeld ?_
    rotate_left
    · (intro w hSw; (try dsimp only at hSw); go_simp); try with_reducible rfl
    try simp only [Act.put, List.setIfInBounds_toArray, List.set_cons_zero, List.set_cons_succ]
    refine wpAnyH_take (i := 9) (oi := { dst := some 149, op := Op.nilCheck (Operand.tmp 148), type := 0, pos := "ref.go:142", after := #[{ on := 8, ground := Ground.data }], guard := none }) (v := ?_) rfl (by kernel_rfl) (by kernel_rfl) (by kernel_rfl) (fun _ _ _ h => h) (Or.inl ⟨by kernel_rfl, ?_⟩) hHeld ?_
    rotate_left
    · (intro w hSw; (try dsimp only at hSw); go_simp); try with_reducible rfl
    try simp only [Act.put, List.setIfInBounds_toArray, List.set_cons_zero, List.set_cons_succ]
    refine wpAnyH_take (i := 10) (oi := { dst := some 150, op := Op.fieldAddr 48 (Operand.tmp 149) 2, type := 0, pos := "ref.go:142", after := #[{ on := 9, ground := Ground.data }], guard := none }) (v := ?_) rfl (by kernel_rfl) (by kernel_rfl) (by kernel_rfl) (fun _ _ _ h => h) (Or.inl ⟨by kernel_rfl, ?_⟩) hHeld ?_
    rotate_left
    · (intro w hSw; (try dsimp only at hSw); go_simp); try with_reducible rfl
    try simp only [Act.put, List.setIfInBounds_toArray, List.set_cons_zero, List.set_cons_succ]
    refine wpAnyH_take (i := 11) (oi := { dst := some 151, op := Op.load 3 (Operand.tmp 150), type := 3, pos := "ref.go:142", after := #[{ on := 10, ground := Ground.data }], guard := none }) (v := ?_) rfl (by kernel_rfl) (by kernel_rfl) (by kernel_rfl) (fun _ _ _ h => h) (Or.inl ⟨by kernel_rfl, ?_⟩) hHeld ?_
    rotate_left
    · (intro w hSw; (try dsimp only at hSw); go_simp); try with_reducible rfl
    try simp only [Act.put, List.setIfInBounds_toArray, List.set_cons_zero, List.set_cons_succ]
    refine wpAnyH_take (i := 12) (oi := { dst := some 152, op := Op.binOp BinOp.add 3 (Operand.tmp 151) (Operand.const (Value.int IntKind.i64 32)) 3, type := 3, pos := "ref.go:142", after := #[{ on := 11, ground := Ground.data }], guard := none }) (v := ?_) rfl (by kernel_rfl) (by kernel_rfl) (by kernel_rfl) (fun _ _ _ h => h) (Or.inl ⟨by kernel_rfl, ?_⟩) hHeld ?_
    rotate_left
    · (intro w hSw; (try dsimp only at hSw); go_simp); try with_reducible rfl
    try simp only [Act.put, List.setIfInBounds_toArray, List.set_cons_zero, List.set_cons_succ]
    refine wpAnyH_ready (rs := [13]) (by kernel_rfl) (by simp) (AllReadyH.cons (o := { dst := some 153, op := Op.call { callee := Callee.value (Operand.func 43), args := #[Operand.tmp 152, Operand.const (Value.int IntKind.u8 0)], argTypes := #[3, 5] }, type := 9, pos := "ref.go:142", after := #[{ on := 12, ground := Ground.data }], guard := none }) rfl (fun K hK => ?_) AllReadyH.nil)
    have hOld := hide hHeld
    clear hHeld
    go_simp
    rw [hwz.out]; refine (HFI.out _).mono ?_; rintro e5 w6 ⟨rfl, hb6⟩; have N6 := hide (NV.out.below hb6); have T6 := hide (TV.out.trans (RTurn.of_below hb6 NV.out.size)); have e0 := (N6.out.at_page k hk5 i hi5).1; have e1 := (N6.out.at_page k hk5 i hi5).2; have N7 := N6.out.setPage k hk5 i (filledP S.size zeroB); rw [HFO.out, HB5.out] at N7; have T7 := hide (T6.out.trans (N6.out.turnPage k hk5 i (.string (fillZ (S.size + 32) 0)))); clear hb6
    (try go_wp2_with fail)
    refine hK.out _ _ (held27 N6.out rfl rfl hzs hk5) (fun hHeld => ?_)
    clear hK K hOld
    try simp only [Act.put, List.setIfInBounds_toArray, List.set_cons_zero, List.set_cons_succ]
    refine wpAnyH_take (i := 14) (oi := { dst := some 154, op := Op.indexAddr 82 (Operand.tmp 146) (Operand.tmp 147), type := 0, pos := "ref.go:142", after := #[{ on := 6, ground := Ground.data }, { on := 7, ground := Ground.data }, { on := 0, ground := Ground.phase }, { on := 1, ground := Ground.phase }, { on := 2, ground := Ground.phase }, { on := 3, ground := Ground.phase }, { on := 4, ground := Ground.phase }, { on := 5, ground := Ground.phase }, { on := 6, ground := Ground.phase }, { on := 7, ground := Ground.phase }, { on := 8, ground := Ground.phase }, { on := 9, ground := Ground.phase }, { on := 10, ground := Ground.phase }, { on := 11, ground := Ground.phase }, { on := 12, ground := Ground.phase }, { on := 13, ground := Ground.phase }], guard := none }) (v := ?_) rfl (by kernel_rfl) (by kernel_rfl) (by kernel_rfl) (fun _ _ _ h => h) (Or.inl ⟨by kernel_rfl, ?_⟩) hHeld ?_
    rotate_left
    · (intro w hSw; (try dsimp only at hSw); go_simp); try with_reducible rfl
    try simp only [Act.put, List.setIfInBounds_toArray, List.set_cons_zero, List.set_cons_succ]
    refine wpAnyH_ready (rs := [15]) (by kernel_rfl) (by simp) (AllReadyH.cons (o := { dst := none, op := Op.store 9 (Operand.tmp 154) (Operand.tmp 153), type := 0, pos := "ref.go:142", after := #[{ on := 14, ground := Ground.data }, { on := 13, ground := Ground.data }, { on := 13, ground := Ground.chain }, { on := 0, ground := Ground.phase }, { on := 1, ground := Ground.phase }, { on := 2, ground := Ground.phase }, { on := 3, ground := Ground.phase }, { on := 4, ground := Ground.phase }, { on := 5, ground := Ground.phase }, { on := 6, ground := Ground.phase }, { on := 7, ground := Ground.phase }, { on := 8, ground := Ground.phase }, { on := 9, ground := Ground.phase }, { on := 10, ground := Ground.phase }, { on := 11, ground := Ground.phase }, { on := 12, ground := Ground.phase }, { on := 13, ground := Ground.phase }], guard := none }) rfl (fun K hK => ?_) AllReadyH.nil)
    have hOld := hide hHeld
    clear hHeld
    go_simp
    have N7 := hide N7
    (try go_wp2_with fail)
    refine hK.out _ _ (held27 N7.out (put_length _ _ _) rfl hzs hk5) (fun hHeld => ?_)
    clear hK K hOld
    try simp only [Act.put, List.setIfInBounds_toArray, List.set_cons_zero, List.set_cons_succ]
    refine wpAnyH_done (by kernel_rfl) ?_ _
    clear hHeld
    --END27
    go_wp2_with fail
    go_ret
    refine ⟨ret_int (by rw [HPE.out, if_neg hfz, hwk]; rfl), ?_, T7.out⟩
    rw [HFR.out, ← HP5.out]
    exact N7.out
  | false =>
    rw [hwk] at da
    have d3 := N4.out.at_row k hk3
    have e0 := (N4.out.at_page k hk3 i hi3).1
    have e1 := (N4.out.at_page k hk3 i hi3).2
    have N5 := hide (N4.out.setPage k hk3 i (d, t))
    have T5 := hide (T4.out.trans (N4.out.turnPage k hk3 i (.string (d ++ t))))
    dsimp only at N5
    have hsum : ¬ 9223372036854775807 < d.size + t.size := by rw [hd', he']; have := HOK.out.size; omega
    go_wp2_with fail
    go_ret
    refine ⟨ret_int (by rw [HPE.out, if_neg hfz, hwk]; rfl), ?_, T5.out⟩
    rw [HPS.out, if_neg hfz, hwk]
    exact N5.out
end
end Go.Proofs.Ythippbckjldijaa
