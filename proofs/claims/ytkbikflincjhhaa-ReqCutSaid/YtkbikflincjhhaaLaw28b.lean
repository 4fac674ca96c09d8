/-
  A request cut: of fewer bytes, and of more, nothing is told but that it is no request (P28.4): for every request, cut and text.
-/
import Derived.Test.YtkbikflincjhhaaLaw28

namespace Go.Proofs.Ytkbikflincjhhaa
set_option linter.unusedSimpArgs false
set_option linter.unusedVariables false
open Go.RowKit Go.WideShapes Go.ChangeShapes Go.ChangeAt Go.Deep

theorem dec_one {l : List UInt8} (h : decO l = true) : 1 ≤ l.length := (of_decide_eq_true h).1
theorem pre_dec {T : List UInt8} (h : decO T = true) (n : Nat) (hn : n < T.length) (W : World) :
    Calls Try.prog 10 #[.string ((bs T).extract 0 n)] W fun e w' => ∃ a c, e = .returned (.tuple #[.agg (rqC rq0 (.slice a 0 c)), .int .i64 4]) ∧ Below W.heap.size W w' := by
  have hsh := dec_short h
  have e : (bs T).extract 0 n = bs (T.take n) := by
    apply ByteArray.ext
    simp [bs]
  have hno : ¬ decO (T.take n) = true := fun h' => by
    have := dec_prefix (a := T.take n) (b := T.drop n) (by rw [List.take_append_drop]; exact h) h'
    have := congrArg List.length this
    rw [List.length_drop] at this
    simp at this
    omega
  obtain ⟨d1, d2⟩ := dec_no hno
  rw [e]
  refine (dec_any (T.take n) (by rw [List.length_take]; omega) W).mono ?_
  rintro en w' ⟨a, c, h1, -, h3⟩
  rw [d1, d2] at h1
  exact ⟨a, c, h1, h3⟩
def moE (s : ByteArray) : Int := if s.size = 0 then 0 else 4
theorem post_dec {T : List UInt8} (h : decO T = true) (s v : ByteArray) (hv : v.size = 0 ↔ s.size = 0) (hv5 : v.size ≤ 50) (W : World) :
    Calls Try.prog 10 #[.string (bs T ++ v)] W fun e w' => ∃ (z : RqM) (a : Option Addr) (c : Nat), e = .returned (.tuple #[.agg (rqC z (.slice a z.L.length c)), .int .i64 (moE s)]) ∧ Below W.heap.size W w' := by
  have hsh := dec_short h
  obtain ⟨u, hu⟩ : ∃ u, u = v.data.toList := ⟨_, rfl⟩
  have hul : u.length = v.size := by rw [hu, size_list]
  have e : bs T ++ v = bs (T ++ u) := by rw [← bs_append, hu, bs_of]
  have hE : decE (T ++ u) = moE s := by
    unfold moE
    split
    next h0 =>
      have : u = [] := List.length_eq_zero_iff.mp (by rw [hul]; exact hv.2 h0)
      rw [this, List.append_nil]
      exact (dec_yes h).1
    next h0 =>
      refine (dec_no fun h' => ?_).1
      have := dec_prefix h' h
      rw [this] at hul
      exact h0 (hv.1 (by simpa using hul.symm))
  rw [e]
  refine (dec_any (T ++ u) (by rw [List.length_append]; omega) W).mono ?_
  rintro en w' ⟨a, c, h1, -, h3⟩
  rw [hE] at h1
  exact ⟨decX (T ++ u), a, c, h1, h3⟩
theorem byte0 (l : List UInt8) (h : 0 < (bs l).size) : (((bs l)[0]'h).toNat : Int) = kd l := by
  unfold kd
  have hx : (bs l).data.toList.getD 0 0 = (bs l)[0]'h := by rw [← getElem_list (bs l) 0 h]; simp only [List.getD, List.getElem?_eq_getElem (show 0 < (bs l).data.toList.length by rw [size_list]; exact h), Option.getD_some]
  rw [bs_toList] at hx
  rw [hx]
theorem moE_eq (s : ByteArray) : ((moE s == 4) == !s.toList.isEmpty) = true := by
  unfold moE
  by_cases h : s.size = 0
  · have e : s.toList.isEmpty = true := by
      rw [Lib.toList_data, List.isEmpty_iff_length_eq_zero, size_list]
      exact h
    rw [if_pos h, e]; rfl
  · have e : s.toList.isEmpty = false := by
      rw [Lib.toList_data, List.isEmpty_eq_false_iff]
      intro e
      exact h (by rw [← size_list, e]; rfl)
    rw [if_neg h, e]; rfl
theorem cut_len (c : Int) (m : Nat) (h0 : 0 ≤ c) (h1 : c ≤ 65535) (hm : 1 ≤ m) (hm2 : m ≤ 260) : ∃ n : Nat, n < m ∧ c.tmod (m : Int) = n := by
  have a0 := Int.emod_nonneg c (show (m : Int) ≠ 0 by omega)
  have a1 := Int.emod_lt_of_pos c (show (0 : Int) < m by omega)
  refine ⟨(c % (m : Int)).toNat, by omega, ?_⟩
  rw [Int.tmod_eq_emod_of_nonneg h0]
  omega
set_option maxRecDepth 100000 in
set_option maxHeartbeats 2000000 in
theorem reqCut_walk (y : RqM) (hy : InOk y) (a : Option Addr) (L : List LnM) (cap : Nat) (hcap : L.length ≤ cap) (h63 : L.length ≤ 9223372036854775807) (k : Int) (hk0 : 0 ≤ k) (hk1 : k ≤ 65535) (s : ByteArray) (hs : s.size ≤ 9223372036854775807) (w : World) (hin : LnIn w a L) (hok : ∀ x ∈ L, LnOk x) :
    Calls Try.prog 6 #[.agg #[.int .u8 y.k, .int .i64 y.code, .int .u8 y.ak, .string y.name, .int .u64 y.key, .int .i64 y.ref, .int .i64 y.amt, .int .i64 y.n, .slice a L.length cap], .int .u16 k, .string s] w fun e w' => e = .returned (.bool true) ∧ Below w.heap.size w w' := by
  obtain ⟨n, hn⟩ : ∃ n, min L.length 10 = n := ⟨_, rfl⟩
  have hn10 : n ≤ 10 := by omega
  have hnl : n ≤ L.length := by omega
  have HOF := hide (fun W hW => of_any y hy L a cap n hn hcap W hW)
  have HEN := hide (fun a1 c1 W hW => encP_any y hy L hok n hn10 hnl a1 c1 W hW)
  have XS := hide (heap_new w (.cells #[.int .u8 y.k, .int .i64 y.code, .int .u8 y.ak, .string y.name, .int .u64 y.key, .int .i64 y.ref, .int .i64 y.amt, .int .i64 y.n, .slice a L.length cap] 25))
  have BS := hide ((Below.refl w.heap.size w).alloc (Nat.le_refl _) (.cells #[.int .u8 y.k, .int .i64 y.code, .int .u8 y.ak, .string y.name, .int .u64 y.key, .int .i64 y.ref, .int .i64 y.amt, .int .i64 y.n, .slice a L.length cap] 25))
  have HIN := hide (hin.below BS.out)
  obtain ⟨x, hx⟩ : ∃ x, x = reqM y L n := ⟨_, rfl⟩
  have hxk : x.k = y.k := by rw [hx]; rfl
  rw [← hx] at HEN
  have HXOK := hide (show RqOk x from hx ▸ reqM_ok hy hok hn10)
  have HXK := hide hxk
  clear hin hx hxk hn hcap hok hy h63 hn10 hnl
  unfold OfIs at HOF
  go_enter Try.func6, Try.ntmps6
  go_upto_region 1 with (fail)
  generalize w.alloc (.cells #[.int .u8 y.k, .int .i64 y.code, .int .u8 y.ak, .string y.name, .int .u64 y.key, .int .i64 y.ref, .int .i64 y.amt, .int .i64 y.n, .slice a L.length cap] 25) = w1 at *
  generalize hsb : w.heap.size = sb at XS ⊢
  have HSB := hide hsb
  clear hsb
  obtain ⟨e0, e1, e2, e3, e4, e5, e6, e7, e8⟩ := row9_facts XS.out
  go_wp2_with fail
  refine (HOF.out _ HIN.out).mono ?_
  rintro e w2 ⟨a1, c1, a2, c2, rfl, hl1, hl2, hb⟩
  have hal := (Below.refl w2.heap.size w2).alloc (Nat.le_refl _) (.cells #[.int .u8 y.k, .int .u8 77, .int .u64 y.key, .int .i64 y.ref, .int .i64 y.amt, .int .i64 y.code, .int .u8 y.ak, .string (nmB y.name), .slice a1 n c1, .int .i64 y.n] 39)
  have hal2 := (Below.refl _ (w2.alloc (.cells #[.int .u8 y.k, .int .u8 77, .int .u64 y.key, .int .i64 y.ref, .int .i64 y.amt, .int .i64 y.code, .int .u8 y.ak, .string (nmB y.name), .slice a1 n c1, .int .i64 y.n] 39))).alloc (Nat.le_refl _) (.cells #[.int .u8 y.k, .int .i64 y.code, .int .u8 y.ak, .string (nmB y.name), .int .u64 y.key, .int .i64 y.ref, .int .i64 y.amt, .int .i64 y.n, .slice a2 n c2] 42)
  have XA := hide ((hal2.block _ (by simp)).trans (heap_new w2 (.cells #[.int .u8 y.k, .int .u8 77, .int .u64 y.key, .int .i64 y.ref, .int .i64 y.amt, .int .i64 y.code, .int .u8 y.ak, .string (nmB y.name), .slice a1 n c1, .int .i64 y.n] 39)))
  have L1 := hide ((hl1.below hal).below hal2)
  have B2 := hide (((BS.out.trans (hb.mono BS.out.size)).trans (hal.mono (Nat.le_trans BS.out.size hb.size))).trans (hal2.mono (Nat.le_trans (Nat.le_trans BS.out.size hb.size) hal.size)))
  have XS2 := hide ((hal2.block _ (heap_lt ((hal.block _ (heap_lt ((hb.block _ (heap_lt XS.out)).trans XS.out))).trans ((hb.block _ (heap_lt XS.out)).trans XS.out)))).trans ((hal.block _ (heap_lt ((hb.block _ (heap_lt XS.out)).trans XS.out))).trans ((hb.block _ (heap_lt XS.out)).trans XS.out)))
  clear hl1 hl2 hb hal hal2 e0 e1 e2 e3 e4 e5 e6 e7 e8 HOF HIN XS
  go_upto_region 2 with (fail)
  generalize (w2.alloc (.cells #[.int .u8 y.k, .int .u8 77, .int .u64 y.key, .int .i64 y.ref, .int .i64 y.amt, .int .i64 y.code, .int .u8 y.ak, .string (nmB y.name), .slice a1 n c1, .int .i64 y.n] 39)).alloc (.cells #[.int .u8 y.k, .int .i64 y.code, .int .u8 y.ak, .string (nmB y.name), .int .u64 y.key, .int .i64 y.ref, .int .i64 y.amt, .int .i64 y.n, .slice a2 n c2] 42) = w3 at *
  generalize w2.heap.size = ab at *
  obtain ⟨⟨e0, e1, e2, e3, e4, e5, e6, e7, e8, e9⟩, -⟩ := row10_facts XA.out
  go_wp2_with fail
  refine (HEN.out _ _ _ L1.out).mono ?_
  rintro e w4 ⟨rfl, hb⟩
  have XA4 := hide ((hb.block _ (heap_lt XA.out)).trans XA.out)
  have XS4 := hide ((hb.block _ (heap_lt XS2.out)).trans XS2.out)
  have B4 := hide (B2.out.trans (hb.mono B2.out.size))
  clear hb e0 e1 e2 e3 e4 e5 e6 e7 e8 e9 HEN XA XS2 L1 B2 BS
  by_cases he : encOk x = true
  · obtain ⟨q1, q2⟩ := outs_yes (T := encT x) he
    rw [q1, q2]
    obtain ⟨hd, hkd⟩ := enc_dec x he
    have hsh := dec_short hd
    have hne := dec_one hd
    obtain ⟨cn, hcl, hcm⟩ := cut_len k (encT x).length hk0 hk1 hne hsh
    have HD1 := hide (fun W => pre_dec hd cn hcl W)
    have HD2 := hide (fun W v hv hv5 => post_dec hd s v hv hv5 W)
    have hb0 : ∀ h : 0 < (bs (encT x)).size, (((bs (encT x))[0]'h).toNat : Int) = y.k := fun h => by rw [byte0, hkd]; exact HXK.out
    have hts := bs_size (encT x)
    rw [← hts] at hcl hcm hne hsh
    have hMO := moE_eq s
    generalize moE s = me at *
    generalize bs (encT x) = t at *
    clear q1 q2 hts hd hkd he HXOK HXK
    have hz : ((t.size : Int) == 0) = false := by rw [beq_eq_false_iff_ne]; omega
    have hpos : 0 < t.size := by omega
    have hb1 := hb0 hpos
    clear hb0
    have hgt : decide ((t.size : Int) > 0) = true := decide_eq_true (by omega)
    go_wp2_with fail
    refine (HD1.out _).mono ?_
    rintro e w5 ⟨a5, c5, rfl, hb⟩
    unfold rqC
    have hal := (Below.refl w5.heap.size w5).alloc (Nat.le_refl _) (.cells #[.int .u8 0, .int .u8 0, .int .u64 0, .int .i64 0, .int .i64 0, .int .i64 0, .int .u8 0, .string ⟨#[]⟩, .slice a5 0 c5, .int .i64 0] 39)
    have XS5 := hide ((hal.block _ (heap_lt ((hb.block _ (heap_lt XS4.out)).trans XS4.out))).trans ((hb.block _ (heap_lt XS4.out)).trans XS4.out))
    have B5 := hide ((B4.out.trans (hb.mono B4.out.size)).trans (hal.mono (Nat.le_trans B4.out.size hb.size)))
    clear hb hal HD1 XA4 B4 XS4
    simp only [rq0] at *
    go_upto_region 8 with (fail)
    generalize w5.alloc (.cells #[.int .u8 0, .int .u8 0, .int .u64 0, .int .i64 0, .int .i64 0, .int .i64 0, .int .u8 0, .string ⟨#[]⟩, .slice a5 0 c5, .int .i64 0] 39) = w6 at *
    go_wp2_with fail
    all_goals
      refine (HD2.out _ _ (by first | (rw [ByteArray.size_extract]; omega) | omega) (by first | (rw [ByteArray.size_extract]; omega) | omega)).mono ?_
      rintro e w7 ⟨z, a7, c7, rfl, hb⟩
      unfold rqC
      have hal := (Below.refl w7.heap.size w7).alloc (Nat.le_refl _) (.cells #[.int .u8 z.k, .int .u8 z.ek, .int .u64 z.key, .int .i64 z.ref, .int .i64 z.amt, .int .i64 z.code, .int .u8 z.ak, .string z.name, .slice a7 z.L.length c7, .int .i64 z.n] 39)
      have XS9 := hide ((hal.block _ (heap_lt ((hb.block _ (heap_lt XS5.out)).trans XS5.out))).trans ((hb.block _ (heap_lt XS5.out)).trans XS5.out))
      have B9 := hide ((B5.out.trans (hb.mono B5.out.size)).trans (hal.mono (Nat.le_trans B5.out.size hb.size)))
      clear hb hal HD2 B5 XS5
      go_upto_region 9 with (fail)
      generalize w7.alloc (.cells #[.int .u8 z.k, .int .u8 z.ek, .int .u64 z.key, .int .i64 z.ref, .int .i64 z.amt, .int .i64 z.code, .int .u8 z.ak, .string z.name, .slice a7 z.L.length c7, .int .i64 z.n] 39) = w9 at *
      have XS9 := hide (show w9.drew.heap[sb]? = _ from XS9.out)
      have B9 := hide ((B9.out).drew)
      refine wp_region_held_drew (S := (fun W => W.heap[sb]? = some (.cells #[.int .u8 y.k, .int .i64 y.code, .int .u8 y.ak, .string y.name, .int .u64 y.key, .int .i64 y.ref, .int .i64 y.amt, .int .i64 y.n, .slice a L.length cap] 25 (0, 0)))) (by kernel_rfl) (XS9.out) (fun hHeld => ?_)
      generalize w9.drew = v0 at *
      refine wpAnyH_ready (rs := [0]) (by kernel_rfl) (by simp) (AllReadyH.cons (o := { dst := some 53, op := Op.call { callee := Callee.value (Operand.func 13), args := #[], argTypes := #[] }, type := 4, pos := "law.go:175", after := #[], guard := none }) rfl (fun K hK => ?_) AllReadyH.nil)
      have hOld := hide hHeld
      clear hHeld
      go_simp
      refine (wakes28 _).mono ?_
      rintro e v1 ⟨rfl, hbb⟩
      have BB := hide (B9.out.trans (hbb.mono B9.out.size))
      have hw1 := (hbb.block _ (heap_lt hOld.out)).trans hOld.out
      clear hbb B9
      (try go_wp2_with fail)
      refine hK.out _ _ (hw1) (fun hHeld => ?_)
      clear hK K hOld
      try simp only [Act.put, List.setIfInBounds_toArray, List.set_cons_zero, List.set_cons_succ]
      refine wpAnyH_take (i := 1) (oi := { dst := some 54, op := Op.move (Operand.tmp 53), type := 4, pos := "law.go:175", after := #[{ on := 0, ground := Ground.data }, { on := 0, ground := Ground.chain }], guard := none }) (v := ?_) rfl (by kernel_rfl) (by kernel_rfl) (by kernel_rfl) (fun _ _ _ h => h) (Or.inl ⟨by kernel_rfl, ?_⟩) hHeld ?_
      rotate_left
      · (intro w hSw; (try dsimp only at hSw); have e0 := cell_of_block hSw 0; go_simp); try with_reducible rfl
      try simp only [Act.put, List.setIfInBounds_toArray, List.set_cons_zero, List.set_cons_succ]
      refine wpAnyH_take (i := 2) (oi := { dst := some 55, op := Op.move (Operand.tmp 9), type := 9, pos := "law.go:175", after := #[{ on := 1, ground := Ground.guard }], guard := some (1, true) }) (v := ?_) rfl (by kernel_rfl) (by kernel_rfl) (by kernel_rfl) (fun _ _ _ h => h) (Or.inl ⟨by kernel_rfl, ?_⟩) hHeld ?_
      rotate_left
      · (intro w hSw; (try dsimp only at hSw); have e0 := cell_of_block hSw 0; go_simp); try with_reducible rfl
      try simp only [Act.put, List.setIfInBounds_toArray, List.set_cons_zero, List.set_cons_succ]
      refine wpAnyH_take (i := 3) (oi := { dst := some 56, op := Op.call { callee := Callee.builtin Builtin.len, args := #[Operand.tmp 55], argTypes := #[9] }, type := 3, pos := "law.go:175", after := #[{ on := 2, ground := Ground.data }, { on := 1, ground := Ground.guard }], guard := some (1, true) }) (v := ?_) rfl (by kernel_rfl) (by kernel_rfl) (by kernel_rfl) (fun _ _ _ h => h) (Or.inl ⟨by kernel_rfl, ?_⟩) hHeld ?_
      rotate_left
      · (intro w hSw; (try dsimp only at hSw); have e0 := cell_of_block hSw 0; go_simp); try with_reducible rfl
      try simp only [Act.put, List.setIfInBounds_toArray, List.set_cons_zero, List.set_cons_succ]
      refine wpAnyH_take (i := 4) (oi := { dst := some 57, op := Op.binOp BinOp.gtr 3 (Operand.tmp 56) (Operand.const (Value.int IntKind.i64 0)) 3, type := 4, pos := "law.go:175", after := #[{ on := 3, ground := Ground.data }, { on := 1, ground := Ground.guard }], guard := some (1, true) }) (v := ?_) rfl (by kernel_rfl) (by kernel_rfl) (by kernel_rfl) (fun _ _ _ h => h) (Or.inl ⟨by kernel_rfl, ?_⟩) hHeld ?_
      rotate_left
      · (intro w hSw; (try dsimp only at hSw); have e0 := cell_of_block hSw 0; go_simp); try with_reducible rfl
      try simp only [Act.put, List.setIfInBounds_toArray, List.set_cons_zero, List.set_cons_succ]
      refine wpAnyH_take (i := 5) (oi := { dst := some 58, op := Op.pick (Operand.tmp 54) (Operand.tmp 57) (Operand.const (Value.bool false)), type := 4, pos := "law.go:175", after := #[{ on := 1, ground := Ground.data }, { on := 4, ground := Ground.data }], guard := none }) (v := ?_) rfl (by kernel_rfl) (by kernel_rfl) (by kernel_rfl) (fun _ _ _ h => h) (Or.inl ⟨by kernel_rfl, ?_⟩) hHeld ?_
      rotate_left
      · (intro w hSw; (try dsimp only at hSw); have e0 := cell_of_block hSw 0; go_simp); try with_reducible rfl
      try simp only [Act.put, List.setIfInBounds_toArray, List.set_cons_zero, List.set_cons_succ]
      refine wpAnyH_take (i := 6) (oi := { dst := some 59, op := Op.move (Operand.tmp 58), type := 4, pos := "law.go:175", after := #[{ on := 5, ground := Ground.data }, { on := 1, ground := Ground.chain }], guard := none }) (v := ?_) rfl (by kernel_rfl) (by kernel_rfl) (by kernel_rfl) (fun _ _ _ h => h) (Or.inl ⟨by kernel_rfl, ?_⟩) hHeld ?_
      rotate_left
      · (intro w hSw; (try dsimp only at hSw); have e0 := cell_of_block hSw 0; go_simp); try with_reducible rfl
      try simp only [Act.put, List.setIfInBounds_toArray, List.set_cons_zero, List.set_cons_succ]
      refine wpAnyH_take (i := 7) (oi := { dst := some 60, op := Op.move (Operand.tmp 9), type := 9, pos := "law.go:175", after := #[{ on := 6, ground := Ground.guard }], guard := some (6, true) }) (v := ?_) rfl (by kernel_rfl) (by kernel_rfl) (by kernel_rfl) (fun _ _ _ h => h) (Or.inl ⟨by kernel_rfl, ?_⟩) hHeld ?_
      rotate_left
      · (intro w hSw; (try dsimp only at hSw); have e0 := cell_of_block hSw 0; go_simp); try with_reducible rfl
      try simp only [Act.put, List.setIfInBounds_toArray, List.set_cons_zero, List.set_cons_succ]
      refine wpAnyH_take (i := 8) (oi := { dst := some 61, op := Op.index 9 (Operand.tmp 60) (Operand.const (Value.int IntKind.i64 0)), type := 5, pos := "law.go:175", after := #[{ on := 7, ground := Ground.data }, { on := 6, ground := Ground.guard }], guard := some (6, true) }) (v := ?_) rfl (by kernel_rfl) (by kernel_rfl) (by kernel_rfl) (fun _ _ _ h => h) (Or.inl ⟨by kernel_rfl, ?_⟩) hHeld ?_
      rotate_left
      · (intro w hSw; (try dsimp only at hSw); have e0 := cell_of_block hSw 0; go_simp); try with_reducible rfl
      try simp only [Act.put, List.setIfInBounds_toArray, List.set_cons_zero, List.set_cons_succ]
      refine wpAnyH_take (i := 9) (oi := { dst := some 62, op := Op.fieldAddr 25 (Operand.tmp 3) 0, type := 0, pos := "law.go:175", after := #[{ on := 6, ground := Ground.guard }], guard := some (6, true) }) (v := ?_) rfl (by kernel_rfl) (by kernel_rfl) (by kernel_rfl) (fun _ _ _ h => h) (Or.inl ⟨by kernel_rfl, ?_⟩) hHeld ?_
      rotate_left
      · (intro w hSw; (try dsimp only at hSw); have e0 := cell_of_block hSw 0; go_simp); try with_reducible rfl
      try simp only [Act.put, List.setIfInBounds_toArray, List.set_cons_zero, List.set_cons_succ]
      refine wpAnyH_take (i := 10) (oi := { dst := some 63, op := Op.load 5 (Operand.tmp 62), type := 5, pos := "law.go:175", after := #[{ on := 9, ground := Ground.data }, { on := 6, ground := Ground.guard }], guard := some (6, true) }) (v := ?_) rfl (by kernel_rfl) (by kernel_rfl) (by kernel_rfl) (fun _ _ _ h => h) (Or.inl ⟨by kernel_rfl, ?_⟩) hHeld ?_
      rotate_left
      · (intro w hSw; (try dsimp only at hSw); have e0 := cell_of_block hSw 0; go_simp); try with_reducible rfl
      try simp only [Act.put, List.setIfInBounds_toArray, List.set_cons_zero, List.set_cons_succ]
      refine wpAnyH_take (i := 11) (oi := { dst := some 64, op := Op.binOp BinOp.eql 5 (Operand.tmp 61) (Operand.tmp 63) 5, type := 4, pos := "law.go:175", after := #[{ on := 8, ground := Ground.data }, { on := 10, ground := Ground.data }, { on := 6, ground := Ground.guard }], guard := some (6, true) }) (v := ?_) rfl (by kernel_rfl) (by kernel_rfl) (by kernel_rfl) (fun _ _ _ h => h) (Or.inl ⟨by kernel_rfl, ?_⟩) hHeld ?_
      rotate_left
      · (intro w hSw; (try dsimp only at hSw); have e0 := cell_of_block hSw 0; go_simp); try with_reducible rfl
      try simp only [Act.put, List.setIfInBounds_toArray, List.set_cons_zero, List.set_cons_succ]
      refine wpAnyH_take (i := 12) (oi := { dst := some 65, op := Op.pick (Operand.tmp 59) (Operand.tmp 64) (Operand.const (Value.bool false)), type := 4, pos := "law.go:175", after := #[{ on := 6, ground := Ground.data }, { on := 11, ground := Ground.data }], guard := none }) (v := ?_) rfl (by kernel_rfl) (by kernel_rfl) (by kernel_rfl) (fun _ _ _ h => h) (Or.inl ⟨by kernel_rfl, ?_⟩) hHeld ?_
      rotate_left
      · (intro w hSw; (try dsimp only at hSw); have e0 := cell_of_block hSw 0; go_simp); try with_reducible rfl
      try simp only [Act.put, List.setIfInBounds_toArray, List.set_cons_zero, List.set_cons_succ]
      refine wpAnyH_take (i := 13) (oi := { dst := some 66, op := Op.move (Operand.tmp 65), type := 4, pos := "law.go:175", after := #[{ on := 12, ground := Ground.data }, { on := 6, ground := Ground.chain }], guard := none }) (v := ?_) rfl (by kernel_rfl) (by kernel_rfl) (by kernel_rfl) (fun _ _ _ h => h) (Or.inl ⟨by kernel_rfl, ?_⟩) hHeld ?_
      rotate_left
      · (intro w hSw; (try dsimp only at hSw); have e0 := cell_of_block hSw 0; go_simp); try with_reducible rfl
      try simp only [Act.put, List.setIfInBounds_toArray, List.set_cons_zero, List.set_cons_succ]
      refine wpAnyH_take (i := 14) (oi := { dst := some 67, op := Op.move (Operand.tmp 12), type := 45, pos := "law.go:175", after := #[{ on := 13, ground := Ground.guard }], guard := some (13, true) }) (v := ?_) rfl (by kernel_rfl) (by kernel_rfl) (by kernel_rfl) (fun _ _ _ h => h) (Or.inl ⟨by kernel_rfl, ?_⟩) hHeld ?_
      rotate_left
      · (intro w hSw; (try dsimp only at hSw); have e0 := cell_of_block hSw 0; go_simp); try with_reducible rfl
      try simp only [Act.put, List.setIfInBounds_toArray, List.set_cons_zero, List.set_cons_succ]
      refine wpAnyH_take (i := 15) (oi := { dst := some 68, op := Op.binOp BinOp.eql 45 (Operand.tmp 67) (Operand.const (Value.int IntKind.i64 4)) 45, type := 4, pos := "law.go:175", after := #[{ on := 14, ground := Ground.data }, { on := 13, ground := Ground.guard }], guard := some (13, true) }) (v := ?_) rfl (by kernel_rfl) (by kernel_rfl) (by kernel_rfl) (fun _ _ _ h => h) (Or.inl ⟨by kernel_rfl, ?_⟩) hHeld ?_
      rotate_left
      · (intro w hSw; (try dsimp only at hSw); have e0 := cell_of_block hSw 0; go_simp); try with_reducible rfl
      try simp only [Act.put, List.setIfInBounds_toArray, List.set_cons_zero, List.set_cons_succ]
      refine wpAnyH_take (i := 16) (oi := { dst := some 69, op := Op.pick (Operand.tmp 66) (Operand.tmp 68) (Operand.const (Value.bool false)), type := 4, pos := "law.go:175", after := #[{ on := 13, ground := Ground.data }, { on := 15, ground := Ground.data }], guard := none }) (v := ?_) rfl (by kernel_rfl) (by kernel_rfl) (by kernel_rfl) (fun _ _ _ h => h) (Or.inl ⟨by kernel_rfl, ?_⟩) hHeld ?_
      rotate_left
      · (intro w hSw; (try dsimp only at hSw); have e0 := cell_of_block hSw 0; go_simp); try with_reducible rfl
      try simp only [Act.put, List.setIfInBounds_toArray, List.set_cons_zero, List.set_cons_succ]
      refine wpAnyH_take (i := 17) (oi := { dst := some 70, op := Op.move (Operand.tmp 69), type := 4, pos := "law.go:175", after := #[{ on := 16, ground := Ground.data }, { on := 13, ground := Ground.chain }], guard := none }) (v := ?_) rfl (by kernel_rfl) (by kernel_rfl) (by kernel_rfl) (fun _ _ _ h => h) (Or.inl ⟨by kernel_rfl, ?_⟩) hHeld ?_
      rotate_left
      · (intro w hSw; (try dsimp only at hSw); have e0 := cell_of_block hSw 0; go_simp); try with_reducible rfl
      try simp only [Act.put, List.setIfInBounds_toArray, List.set_cons_zero, List.set_cons_succ]
      refine wpAnyH_take (i := 18) (oi := { dst := some 71, op := Op.move (Operand.tmp 14), type := 45, pos := "law.go:175", after := #[{ on := 17, ground := Ground.guard }], guard := some (17, true) }) (v := ?_) rfl (by kernel_rfl) (by kernel_rfl) (by kernel_rfl) (fun _ _ _ h => h) (Or.inl ⟨by kernel_rfl, ?_⟩) hHeld ?_
      rotate_left
      · (intro w hSw; (try dsimp only at hSw); have e0 := cell_of_block hSw 0; go_simp); try with_reducible rfl
      try simp only [Act.put, List.setIfInBounds_toArray, List.set_cons_zero, List.set_cons_succ]
      refine wpAnyH_take (i := 19) (oi := { dst := some 72, op := Op.binOp BinOp.eql 45 (Operand.tmp 71) (Operand.const (Value.int IntKind.i64 4)) 45, type := 4, pos := "law.go:175", after := #[{ on := 18, ground := Ground.data }, { on := 17, ground := Ground.guard }], guard := some (17, true) }) (v := ?_) rfl (by kernel_rfl) (by kernel_rfl) (by kernel_rfl) (fun _ _ _ h => h) (Or.inl ⟨by kernel_rfl, ?_⟩) hHeld ?_
      rotate_left
      · (intro w hSw; (try dsimp only at hSw); have e0 := cell_of_block hSw 0; go_simp); try with_reducible rfl
      try simp only [Act.put, List.setIfInBounds_toArray, List.set_cons_zero, List.set_cons_succ]
      refine wpAnyH_take (i := 20) (oi := { dst := some 73, op := Op.move (Operand.tmp 2), type := 9, pos := "law.go:175", after := #[{ on := 17, ground := Ground.guard }], guard := some (17, true) }) (v := ?_) rfl (by kernel_rfl) (by kernel_rfl) (by kernel_rfl) (fun _ _ _ h => h) (Or.inl ⟨by kernel_rfl, ?_⟩) hHeld ?_
      rotate_left
      · (intro w hSw; (try dsimp only at hSw); have e0 := cell_of_block hSw 0; go_simp); try with_reducible rfl
      try simp only [Act.put, List.setIfInBounds_toArray, List.set_cons_zero, List.set_cons_succ]
      refine wpAnyH_take (i := 21) (oi := { dst := some 74, op := Op.binOp BinOp.neq 9 (Operand.tmp 73) (Operand.const (Value.string { data := #[] })) 9, type := 4, pos := "law.go:175", after := #[{ on := 20, ground := Ground.data }, { on := 17, ground := Ground.guard }], guard := some (17, true) }) (v := ?_) rfl (by kernel_rfl) (by kernel_rfl) (by kernel_rfl) (fun _ _ _ h => h) (Or.inl ⟨by kernel_rfl, ?_⟩) hHeld ?_
      rotate_left
      · (intro w hSw; (try dsimp only at hSw); have e0 := cell_of_block hSw 0; go_simp); try with_reducible rfl
      try simp only [Act.put, List.setIfInBounds_toArray, List.set_cons_zero, List.set_cons_succ]
      refine wpAnyH_take (i := 22) (oi := { dst := some 75, op := Op.binOp BinOp.eql 4 (Operand.tmp 72) (Operand.tmp 74) 4, type := 4, pos := "law.go:175", after := #[{ on := 19, ground := Ground.data }, { on := 21, ground := Ground.data }, { on := 17, ground := Ground.guard }], guard := some (17, true) }) (v := ?_) rfl (by kernel_rfl) (by kernel_rfl) (by kernel_rfl) (fun _ _ _ h => h) (Or.inl ⟨by kernel_rfl, ?_⟩) hHeld ?_
      rotate_left
      · (intro w hSw; (try dsimp only at hSw); have e0 := cell_of_block hSw 0; go_simp); try with_reducible rfl
      try simp only [Act.put, List.setIfInBounds_toArray, List.set_cons_zero, List.set_cons_succ]
      refine wpAnyH_take (i := 23) (oi := { dst := some 76, op := Op.pick (Operand.tmp 70) (Operand.tmp 75) (Operand.const (Value.bool false)), type := 4, pos := "law.go:175", after := #[{ on := 17, ground := Ground.data }, { on := 22, ground := Ground.data }], guard := none }) (v := ?_) rfl (by kernel_rfl) (by kernel_rfl) (by kernel_rfl) (fun _ _ _ h => h) (Or.inl ⟨by kernel_rfl, ?_⟩) hHeld ?_
      rotate_left
      · (intro w hSw; (try dsimp only at hSw); have e0 := cell_of_block hSw 0; go_simp); try with_reducible rfl
      try simp only [Act.put, List.setIfInBounds_toArray, List.set_cons_zero, List.set_cons_succ]
      refine wpAnyH_take (i := 24) (oi := { dst := some 6, op := Op.assign (Operand.tmp 76), type := 4, pos := "law.go:175", after := #[{ on := 23, ground := Ground.data }, { on := 17, ground := Ground.chain }, { on := 0, ground := Ground.phase }, { on := 1, ground := Ground.phase }, { on := 2, ground := Ground.phase }, { on := 3, ground := Ground.phase }, { on := 4, ground := Ground.phase }, { on := 5, ground := Ground.phase }, { on := 6, ground := Ground.phase }, { on := 7, ground := Ground.phase }, { on := 8, ground := Ground.phase }, { on := 9, ground := Ground.phase }, { on := 10, ground := Ground.phase }, { on := 11, ground := Ground.phase }, { on := 12, ground := Ground.phase }, { on := 13, ground := Ground.phase }, { on := 14, ground := Ground.phase }, { on := 15, ground := Ground.phase }, { on := 16, ground := Ground.phase }, { on := 17, ground := Ground.phase }, { on := 18, ground := Ground.phase }, { on := 19, ground := Ground.phase }, { on := 20, ground := Ground.phase }, { on := 21, ground := Ground.phase }, { on := 22, ground := Ground.phase }, { on := 23, ground := Ground.phase }], guard := none }) (v := ?_) rfl (by kernel_rfl) (by kernel_rfl) (by kernel_rfl) (fun _ _ _ h => h) (Or.inl ⟨by kernel_rfl, ?_⟩) hHeld ?_
      rotate_left
      · (intro w hSw; (try dsimp only at hSw); have e0 := cell_of_block hSw 0; go_simp); try with_reducible rfl
      try simp only [Act.put, List.setIfInBounds_toArray, List.set_cons_zero, List.set_cons_succ]
      refine wpAnyH_done (by kernel_rfl) ?_ _
      clear hHeld
      go_wp2_with fail
      go_ret
      exact ⟨rfl, BB.out⟩
  · obtain ⟨q1, q2⟩ := outs_no (T := encT x) (by simpa using he)
    rw [q1, q2]
    go_wp2_with fail
    refine (wakes28 _).mono ?_
    rintro e wb ⟨rfl, hbb⟩
    have BB := hide (B4.out.trans (hbb.mono B4.out.size))
    clear hbb B4
    go_wp2_with fail
    go_ret
    exact ⟨rfl, BB.out⟩

set_option maxRecDepth 100000 in
theorem reqCut_lifted (os : Os) (started : os.Started) (H : Type) (enc : TypeId × Value → H) :
    ReturnsInHanded {} Try.checked os 6 .any (Rows.reqCutSpec.pre6 enc Try.prog Try.f6 Rows.reqCutRow.domain false) (Rows.reqCutSpec.post enc Try.prog Try.f6 false true false false) := by
  refine returnsInHanded_of_change (C := Try.checked) own started (by kernel_rfl) Try.func6
    (ChangeSpec.witness6 (enc := enc) (C := Try.checked) false ⟨#[], #[.agg #[.int .u8 0, .int .i64 0, .int .u8 0, .string ⟨#[]⟩, .int .u64 0, .int .i64 0, .int .i64 0, .int .i64 0, .slice none 0 0], .int .u16 0, .string ⟨#[]⟩], []⟩ 8 (by kernel_rfl) (by kernel_rfl) (by kernel_rfl) (by kernel_rfl)) ?_
  intro W base args ds gs before hval0 hW _ _
  have hval : ∀ (j : Nat) t v, Try.f6.params[j]? = some t → args[j]? = some v → Value.okWide Try.prog W .any base t v := hval0
  have hW' := hW
  obtain ⟨p, q, hA0, hV, rfl, hfz, hnd⟩ := hW
  have hA : DataW.TrodAll enc Try.prog W 0 (fun _ => true) true Try.f6.params.toList args.toList ds p := hA0
  rw [Try.params6] at hA hval
  obtain ⟨v0, vs0, d0, ds0, p0, q0, hargs, rfl, rfl, h0, r0⟩ := trodAll_cons hA
  obtain ⟨v1, vs1, d1, ds1, p1, q1, rfl, rfl, rfl, h1, r1⟩ := trodAll_cons r0
  obtain ⟨v2, vs2, d2, ds2, p2, q2, rfl, rfl, rfl, h2, r2⟩ := trodAll_cons r1
  obtain ⟨rfl, rfl, rfl⟩ := trodAll_nil r2
  obtain rfl : args = #[v0, v1, v2] := by cases args; simp_all
  obtain ⟨rfl, rfl⟩ := trodVars_none hV
  obtain ⟨y, a, L, cap, rfl, hy, hc, h63, hin, hok⟩ := open_req (hval 0 25 v0 rfl rfl) h0
  obtain ⟨cut, rfl, rfl, rfl, w1⟩ := open_int Try.underlying26 (hval 1 26 v1 rfl rfl) h1
  have z1 := wf_u16 w1
  obtain ⟨more, rfl, rfl, rfl, w2⟩ := ChangeMaps.open_string Try.underlying9 (hval 2 9 v2 rfl rfl) h2
  have z2 : more.size ≤ 9223372036854775807 := w2
  clear hA0 hval0
  refine (reqCut_walk y hy a L cap hc h63 cut z1.1 z1.2 more z2 W hin hok).mono fun e W' ⟨he, hb⟩ => ?_
  subst he
  exact ⟨_, rfl, post_law laidOut (of_decide_eq_true (by kernel_rfl)) rfl rfl Try.underlying4 hW' ⟨rfl, rfl, rfl⟩ hb⟩

/-- THE STATEMENT -/
theorem reqCut_holds : Rows.ReqCutSaid :=
  OpenClaim.holds_of_wide 6 Try.f6 rfl rfl rfl rfl rfl rfl rfl ⟨rfl, rfl, rfl, rfl, rfl⟩ rfl rfl rfl rfl rfl (by kernel_rfl) Try.func6 (by kernel_rfl)
    (of_decide_eq_true (by kernel_rfl)) (by unfold Func.isWrapper; first | (rw [if_pos (by decide +kernel)]; kernel_rfl) | (rw [if_neg (by decide +kernel)]; exact ⟨rfl, rfl⟩))
    (fun os started H enc _ => reqCut_lifted os started H enc)

end Go.Proofs.Ytkbikflincjhhaa
