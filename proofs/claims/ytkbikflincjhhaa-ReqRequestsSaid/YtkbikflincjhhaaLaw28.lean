/-
  Of bytes that are a request's its bytes are these again; a request that can be written is itself again, but for what its kind hasn't: written again it has the same bytes (P28.3): for every request and every text.
-/
import Derived.Test.YtkbikflincjhhaaReqO2

namespace Go.Proofs.Ytkbikflincjhhaa
set_option linter.unusedSimpArgs false
set_option linter.unusedVariables false
open Go.RowKit Go.WideShapes Go.ChangeShapes Go.ChangeAt Go.Deep
theorem row9_facts {w : World} {p : Nat} {a0 a1 a2 a3 a4 a5 a6 a7 a8 : Value} {t : TypeId} (h : w.heap[p]? = some (.cells #[a0, a1, a2, a3, a4, a5, a6, a7, a8] t (0, 0))) :
    w.cell? ⟨p, 0, none⟩ = some a0 ∧ w.cell? ⟨p, 1, none⟩ = some a1 ∧ w.cell? ⟨p, 2, none⟩ = some a2 ∧ w.cell? ⟨p, 3, none⟩ = some a3 ∧ w.cell? ⟨p, 4, none⟩ = some a4 ∧ w.cell? ⟨p, 5, none⟩ = some a5 ∧ w.cell? ⟨p, 6, none⟩ = some a6 ∧ w.cell? ⟨p, 7, none⟩ = some a7 ∧ w.cell? ⟨p, 8, none⟩ = some a8 :=
  ⟨cell_of_block h 0, cell_of_block h 1, cell_of_block h 2, cell_of_block h 3, cell_of_block h 4, cell_of_block h 5, cell_of_block h 6, cell_of_block h 7, cell_of_block h 8⟩
/-- the program's request that 'of' tells -/
def reqM (y : RqM) (L : List LnM) (n : Nat) : RqM := { k := y.k, ek := 77, key := y.key, ref := y.ref, amt := y.amt, code := y.code, ak := y.ak, name := nmB y.name, L := L.take n, n := y.n }
theorem reqM_ok {y : RqM} (hy : InOk y) {L : List LnM} (hok : ∀ x ∈ L, LnOk x) {n : Nat} (hn : n ≤ 10) : RqOk (reqM y L n) := by
  obtain ⟨h1, h2, h3, h4, h5, h6, h7, h8⟩ := hy
  have hs := nmB_size y.name
  refine ⟨h1, h2, h3, h4, h5, h6, ?_, fun x hx => hok x (List.mem_of_mem_take hx), ?_, h8⟩
  · show (nmB y.name).size ≤ _; omega
  · show (L.take n).length ≤ 20; rw [List.length_take]; omega
theorem encP_any (y : RqM) (hy : InOk y) (L : List LnM) (hok : ∀ x ∈ L, LnOk x) (n : Nat) (hn : n ≤ 10) (hl : n ≤ L.length) (a1 : Option Addr) (c1 : Nat) (w : World) (hin : LnIn w a1 (L.take n)) :
    Calls Try.prog 8 #[.agg #[.int .u8 y.k, .int .u8 77, .int .u64 y.key, .int .i64 y.ref, .int .i64 y.amt, .int .i64 y.code, .int .u8 y.ak, .string (nmB y.name), .slice a1 n c1, .int .i64 y.n]] w (EncIs (reqM y L n) w) := by
  have h := enc_any (reqM y L n) (reqM_ok hy hok hn) a1 c1 w hin
  have e : (reqM y L n).L.length = n := by show (L.take n).length = n; rw [List.length_take]; omega
  rw [e] at h
  exact h
theorem outs_yes {ok : Bool} {T : List UInt8} (h : ok = true) : outS ok T = bs T ∧ outE ok = 0 := by subst h; exact ⟨rfl, rfl⟩
theorem outs_no {ok : Bool} {T : List UInt8} (h : ok = false) : outS ok T = ⟨#[]⟩ ∧ outE ok = 2 := by subst h; exact ⟨rfl, rfl⟩
theorem nmB_cases (s : ByteArray) : (300 < s.size ∧ nmB s = s.extract 0 300) ∨ (s.size ≤ 300 ∧ nmB s = s) := by
  unfold nmB
  by_cases h : 300 < s.size
  · exact Or.inl ⟨h, if_pos h⟩
  · exact Or.inr ⟨by omega, if_neg h⟩
/-- a text, its first 300 bytes: told of, and written again -/
theorem back_cut (s : ByteArray) (h : decO (nmB s).data.toList = true) : nmB s = s := by
  rcases nmB_cases s with ⟨h1, h2⟩ | ⟨h1, h2⟩
  · have := dec_short h
    rw [h2, size_list, ByteArray.size_extract] at this
    omega
  · exact h2
set_option maxRecDepth 100000 in
set_option maxHeartbeats 2000000 in
theorem reqBack_walk (y : RqM) (hy : InOk y) (a : Option Addr) (L : List LnM) (cap : Nat) (hcap : L.length ≤ cap) (h63 : L.length ≤ 9223372036854775807) (s : ByteArray) (hs : s.size ≤ 9223372036854775807) (w : World) (hin : LnIn w a L) (hok : ∀ x ∈ L, LnOk x) :
    Calls Try.prog 4 #[.agg #[.int .u8 y.k, .int .i64 y.code, .int .u8 y.ak, .string y.name, .int .u64 y.key, .int .i64 y.ref, .int .i64 y.amt, .int .i64 y.n, .slice a L.length cap], .string s] w fun e w' => e = .returned (.bool true) ∧ Below w.heap.size w w' := by
  obtain ⟨n, hn⟩ : ∃ n, min L.length 10 = n := ⟨_, rfl⟩
  have hn10 : n ≤ 10 := by omega
  have hnl : n ≤ L.length := by omega
  have HOF := hide (fun W hW => of_any y hy L a cap n hn hcap W hW)
  have HEN := hide (fun a1 c1 W hW => encP_any y hy L hok n hn10 hnl a1 c1 W hW)
  have XS := hide (heap_new w (.cells #[.int .u8 y.k, .int .i64 y.code, .int .u8 y.ak, .string y.name, .int .u64 y.key, .int .i64 y.ref, .int .i64 y.amt, .int .i64 y.n, .slice a L.length cap] 25))
  have BS := hide ((Below.refl w.heap.size w).alloc (Nat.le_refl _) (.cells #[.int .u8 y.k, .int .i64 y.code, .int .u8 y.ak, .string y.name, .int .u64 y.key, .int .i64 y.ref, .int .i64 y.amt, .int .i64 y.n, .slice a L.length cap] 25))
  have HIN := hide (hin.below BS.out)
  obtain ⟨x, hx⟩ : ∃ x, x = reqM y L n := ⟨_, rfl⟩
  have hxk : x.k = y.k := by rw [hx]; rfl
  rw [← hx] at HEN
  have HXOK := hide (show RqOk x from hx ▸ reqM_ok hy hok hn10)
  have HXK := hide hxk
  clear hin hx hxk hn hcap hok hy h63 hn10 hnl
  unfold OfIs at HOF
  go_enter Try.func4, Try.ntmps4
  go_upto_region 1 with (fail)
  generalize w.alloc (.cells #[.int .u8 y.k, .int .i64 y.code, .int .u8 y.ak, .string y.name, .int .u64 y.key, .int .i64 y.ref, .int .i64 y.amt, .int .i64 y.n, .slice a L.length cap] 25) = w1 at *
  generalize hsb : w.heap.size = sb at XS ⊢
  have HSB := hide hsb
  clear hsb
  obtain ⟨e0, e1, e2, e3, e4, e5, e6, e7, e8⟩ := row9_facts XS.out
  go_wp2_with fail
  refine (HOF.out _ HIN.out).mono ?_
  rintro e w2 ⟨a1, c1, a2, c2, rfl, hl1, hl2, hb⟩
  have hal := (Below.refl w2.heap.size w2).alloc (Nat.le_refl _) (.cells #[.int .u8 y.k, .int .u8 77, .int .u64 y.key, .int .i64 y.ref, .int .i64 y.amt, .int .i64 y.code, .int .u8 y.ak, .string (nmB y.name), .slice a1 n c1, .int .i64 y.n] 39)
  have hal2 := (Below.refl _ (w2.alloc (.cells #[.int .u8 y.k, .int .u8 77, .int .u64 y.key, .int .i64 y.ref, .int .i64 y.amt, .int .i64 y.code, .int .u8 y.ak, .string (nmB y.name), .slice a1 n c1, .int .i64 y.n] 39))).alloc (Nat.le_refl _) (.cells #[.int .u8 y.k, .int .i64 y.code, .int .u8 y.ak, .string (nmB y.name), .int .u64 y.key, .int .i64 y.ref, .int .i64 y.amt, .int .i64 y.n, .slice a2 n c2] 42)
  have XA := hide ((hal2.block _ (by simp)).trans (heap_new w2 (.cells #[.int .u8 y.k, .int .u8 77, .int .u64 y.key, .int .i64 y.ref, .int .i64 y.amt, .int .i64 y.code, .int .u8 y.ak, .string (nmB y.name), .slice a1 n c1, .int .i64 y.n] 39)))
  have L1 := hide ((hl1.below hal).below hal2)
  have B2 := hide (((BS.out.trans (hb.mono BS.out.size)).trans (hal.mono (Nat.le_trans BS.out.size hb.size))).trans (hal2.mono (Nat.le_trans (Nat.le_trans BS.out.size hb.size) hal.size)))
  have XS2 := hide ((hal2.block _ (heap_lt ((hal.block _ (heap_lt ((hb.block _ (heap_lt XS.out)).trans XS.out))).trans ((hb.block _ (heap_lt XS.out)).trans XS.out)))).trans ((hal.block _ (heap_lt ((hb.block _ (heap_lt XS.out)).trans XS.out))).trans ((hb.block _ (heap_lt XS.out)).trans XS.out)))
  clear hl1 hl2 hb hal hal2 e0 e1 e2 e3 e4 e5 e6 e7 e8 HOF HIN XS
  go_upto_region 2 with (fail)
  generalize (w2.alloc (.cells #[.int .u8 y.k, .int .u8 77, .int .u64 y.key, .int .i64 y.ref, .int .i64 y.amt, .int .i64 y.code, .int .u8 y.ak, .string (nmB y.name), .slice a1 n c1, .int .i64 y.n] 39)).alloc (.cells #[.int .u8 y.k, .int .i64 y.code, .int .u8 y.ak, .string (nmB y.name), .int .u64 y.key, .int .i64 y.ref, .int .i64 y.amt, .int .i64 y.n, .slice a2 n c2] 42) = w3 at *
  generalize w2.heap.size = ab at *
  obtain ⟨⟨e0, e1, e2, e3, e4, e5, e6, e7, e8, e9⟩, -⟩ := row10_facts XA.out
  go_wp2_with fail
  refine (HEN.out _ _ _ L1.out).mono ?_
  rintro e w4 ⟨rfl, hb⟩
  have XA4 := hide ((hb.block _ (heap_lt XA.out)).trans XA.out)
  have XS4 := hide ((hb.block _ (heap_lt XS2.out)).trans XS2.out)
  have B4 := hide (B2.out.trans (hb.mono B2.out.size))
  clear hb e0 e1 e2 e3 e4 e5 e6 e7 e8 e9 HEN XA XS2 L1 B2 BS
  go_upto_if 26 with (fail)
  go_cut [7] from 8 to 56 (fun s7 W => Below w.heap.size w W)
  case first =>
    by_cases he : encOk x = true
    · obtain ⟨q1, q2⟩ := outs_yes (T := encT x) he
      rw [q1, q2]
      obtain ⟨hd, hkd⟩ := enc_dec x he
      have hsh := dec_short hd
      have HDC := hide (fun W => dec_any (encT x) (by omega) W)
      obtain ⟨d1, d2⟩ := dec_yes hd
      obtain ⟨g1, g2⟩ := dec_enc (encT x) hd
      have hz := decR_ok (encT x) hd
      have hzk : (decR (encT x)).k = y.k := by rw [decR_k, hkd]; exact HXK.out
      unfold DecIs at HDC
      rw [d1, d2] at HDC
      generalize decR (encT x) = z at *
      have HEZ := hide (fun a c W hW => enc_any z hz a c W hW)
      unfold EncIs at HEZ
      obtain ⟨q3, q4⟩ := outs_yes (T := encT z) g1
      rw [q3, q4, g2] at HEZ
      unfold rqC at HDC
      rw [hzk] at HDC HEZ
      generalize bs (encT x) = t at *
      clear q1 q2 q3 q4 d1 d2 g1 g2 hz hzk hd hkd hsh he
      go_wp2_with fail
      refine (HDC.out _).mono ?_
      rintro e w5 ⟨a5, c5, rfl, hl5, hb⟩
      have hal := (Below.refl w5.heap.size w5).alloc (Nat.le_refl _) (.cells #[.int .u8 y.k, .int .u8 z.ek, .int .u64 z.key, .int .i64 z.ref, .int .i64 z.amt, .int .i64 z.code, .int .u8 z.ak, .string z.name, .slice a5 z.L.length c5, .int .i64 z.n] 39)
      have XZ := hide (heap_new w5 (.cells #[.int .u8 y.k, .int .u8 z.ek, .int .u64 z.key, .int .i64 z.ref, .int .i64 z.amt, .int .i64 z.code, .int .u8 z.ak, .string z.name, .slice a5 z.L.length c5, .int .i64 z.n] 39))
      have XA5 := hide ((hal.block _ (heap_lt ((hb.block _ (heap_lt XA4.out)).trans XA4.out))).trans ((hb.block _ (heap_lt XA4.out)).trans XA4.out))
      have L5 := hide (hl5.below hal)
      have B5 := hide ((B4.out.trans (hb.mono B4.out.size)).trans (hal.mono (Nat.le_trans B4.out.size hb.size)))
      clear hl5 hb hal HDC XA4 B4
      go_upto_region 5 with (fail)
      generalize w5.alloc (.cells #[.int .u8 y.k, .int .u8 z.ek, .int .u64 z.key, .int .i64 z.ref, .int .i64 z.amt, .int .i64 z.code, .int .u8 z.ak, .string z.name, .slice a5 z.L.length c5, .int .i64 z.n] 39) = w6 at *
      generalize w5.heap.size = zb at *
      obtain ⟨⟨e0, e1, e2, e3, e4, e5, e6, e7, e8, e9⟩, -⟩ := row10_facts XZ.out
      go_wp2_with fail
      refine (HEZ.out _ _ _ L5.out).mono ?_
      rintro e w7 ⟨rfl, hb⟩
      have XZ7 := hide ((hb.block _ (heap_lt XZ.out)).trans XZ.out)
      have XA7 := hide ((hb.block _ (heap_lt XA5.out)).trans XA5.out)
      have B7 := hide (B5.out.trans (hb.mono B5.out.size))
      clear hb e0 e1 e2 e3 e4 e5 e6 e7 e8 e9 HEZ XZ XA5 L5 B5
      have e0 := cell_of_block XZ7.out 0
      have f0 := cell_of_block XA7.out 0
      go_wp2_with fail
      go_meet
      exact B7.out
    · obtain ⟨q1, q2⟩ := outs_no (T := encT x) (by simpa using he)
      rw [q1, q2]
      go_wp2_with fail
      go_meet
      exact B4.out
  case rest =>
    have BC := hide hcut
    clear hcut B4 XA4 XS4
    obtain ⟨u, hu⟩ : ∃ u, u = nmB s := ⟨_, rfl⟩
    have hus := nmB_size s
    rw [← hu] at hus
    have HU := hide (show decO u.data.toList = true → u = s from fun h => by rw [hu]; exact back_cut s (hu ▸ h))
    have HDC := hide (show ∀ (W : World) (v : ByteArray), v = u → Calls Try.prog 10 #[.string v] W (DecIs u.data.toList W) from fun W v hv => by
      have h := dec_any u.data.toList (by rw [size_list]; omega) W
      rw [bs_of] at h
      rw [hv]
      exact h)
    unfold DecIs at HDC
    have hgo : ∀ (W : World), True := fun _ => trivial
    rcases nmB_cases s with ⟨hb, h2⟩ | ⟨hb, h2⟩
    all_goals
      rw [h2] at hu
      have HS := hide hu
      have HUS := hide hus
      clear hus h2 hgo
      go_wp2_with fail
      refine (HDC.out _ _ HS.out.symm).mono ?_
      rintro e w8 ⟨a5, c5, rfl, hl5, hb8⟩
      by_cases hd : decO u.data.toList = true
      · have hus := HU.out hd
        obtain ⟨d1, d2⟩ := dec_yes hd
        obtain ⟨g1, g2⟩ := dec_enc _ hd
        have hz := decR_ok _ hd
        rw [d1]
        rw [d2] at hl5 ⊢
        generalize decR u.data.toList = z at *
        have HEZ := hide (fun a c W hW => enc_any z hz a c W hW)
        unfold EncIs at HEZ
        obtain ⟨q3, q4⟩ := outs_yes (T := encT z) g1
        rw [q3, q4, g2, bs_of, hus] at HEZ
        unfold rqC
        have hal := (Below.refl w8.heap.size w8).alloc (Nat.le_refl _) (.cells #[.int .u8 z.k, .int .u8 z.ek, .int .u64 z.key, .int .i64 z.ref, .int .i64 z.amt, .int .i64 z.code, .int .u8 z.ak, .string z.name, .slice a5 z.L.length c5, .int .i64 z.n] 39)
        have XZ := hide (heap_new w8 (.cells #[.int .u8 z.k, .int .u8 z.ek, .int .u64 z.key, .int .i64 z.ref, .int .i64 z.amt, .int .i64 z.code, .int .u8 z.ak, .string z.name, .slice a5 z.L.length c5, .int .i64 z.n] 39))
        have L5 := hide (hl5.below hal)
        have B5 := hide ((BC.out.trans (hb8.mono BC.out.size)).trans (hal.mono (Nat.le_trans BC.out.size hb8.size)))
        clear hl5 hb8 hal HDC BC q3 q4 g1 g2 hz d1 d2 hd hus
        go_upto_region 9 with (fail)
        generalize w8.alloc (.cells #[.int .u8 z.k, .int .u8 z.ek, .int .u64 z.key, .int .i64 z.ref, .int .i64 z.amt, .int .i64 z.code, .int .u8 z.ak, .string z.name, .slice a5 z.L.length c5, .int .i64 z.n] 39) = w9 at *
        generalize w8.heap.size = zb at *
        obtain ⟨⟨e0, e1, e2, e3, e4, e5, e6, e7, e8, e9⟩, -⟩ := row10_facts XZ.out
        go_wp2_with fail
        refine (HEZ.out _ _ _ L5.out).mono ?_
        rintro e wa ⟨rfl, hb9⟩
        have B9 := hide (B5.out.trans (hb9.mono B5.out.size))
        clear hb9 e0 e1 e2 e3 e4 e5 e6 e7 e8 e9 HEZ XZ L5 B5
        go_wp2_with fail
        refine (wakes28 _).mono ?_
        rintro e wb ⟨rfl, hbb⟩
        have BB := hide (B9.out.trans (hbb.mono B9.out.size))
        clear hbb B9
        go_wp2_with fail
        go_ret
        exact ⟨rfl, BB.out⟩
      · obtain ⟨d1, d2⟩ := dec_no hd
        rw [d1]
        rw [d2] at hl5 ⊢
        generalize rq0 = z at *
        unfold rqC
        have hal := (Below.refl w8.heap.size w8).alloc (Nat.le_refl _) (.cells #[.int .u8 z.k, .int .u8 z.ek, .int .u64 z.key, .int .i64 z.ref, .int .i64 z.amt, .int .i64 z.code, .int .u8 z.ak, .string z.name, .slice a5 z.L.length c5, .int .i64 z.n] 39)
        have B5 := hide ((BC.out.trans (hb8.mono BC.out.size)).trans (hal.mono (Nat.le_trans BC.out.size hb8.size)))
        clear hl5 hb8 hal HDC BC d1 d2 hd
        go_upto_region 9 with (fail)
        generalize w8.alloc (.cells #[.int .u8 z.k, .int .u8 z.ek, .int .u64 z.key, .int .i64 z.ref, .int .i64 z.amt, .int .i64 z.code, .int .u8 z.ak, .string z.name, .slice a5 z.L.length c5, .int .i64 z.n] 39) = w9 at *
        go_wp2_with fail
        refine (wakes28 _).mono ?_
        rintro e wb ⟨rfl, hbb⟩
        have BB := hide (B5.out.trans (hbb.mono B5.out.size))
        clear hbb B5
        go_wp2_with fail
        go_ret
        exact ⟨rfl, BB.out⟩

set_option maxRecDepth 100000 in
theorem reqBack_lifted (os : Os) (started : os.Started) (H : Type) (enc : TypeId × Value → H) :
    ReturnsInHanded {} Try.checked os 4 .any (Rows.reqBackSpec.pre6 enc Try.prog Try.f4 Rows.reqBackRow.domain false) (Rows.reqBackSpec.post enc Try.prog Try.f4 false true false false) := by
  refine returnsInHanded_of_change (C := Try.checked) own started (by kernel_rfl) Try.func4
    (ChangeSpec.witness6 (enc := enc) (C := Try.checked) false ⟨#[], #[.agg #[.int .u8 0, .int .i64 0, .int .u8 0, .string ⟨#[]⟩, .int .u64 0, .int .i64 0, .int .i64 0, .int .i64 0, .slice none 0 0], .string ⟨#[]⟩], []⟩ 8 (by kernel_rfl) (by kernel_rfl) (by kernel_rfl) (by kernel_rfl)) ?_
  intro W base args ds gs before hval0 hW _ _
  have hval : ∀ (j : Nat) t v, Try.f4.params[j]? = some t → args[j]? = some v → Value.okWide Try.prog W .any base t v := hval0
  have hW' := hW
  obtain ⟨p, q, hA0, hV, rfl, hfz, hnd⟩ := hW
  have hA : DataW.TrodAll enc Try.prog W 0 (fun _ => true) true Try.f4.params.toList args.toList ds p := hA0
  rw [Try.params4] at hA hval
  obtain ⟨v0, vs0, d0, ds0, p0, q0, hargs, rfl, rfl, h0, r0⟩ := trodAll_cons hA
  obtain ⟨v1, vs1, d1, ds1, p1, q1, rfl, rfl, rfl, h1, r1⟩ := trodAll_cons r0
  obtain ⟨rfl, rfl, rfl⟩ := trodAll_nil r1
  obtain rfl : args = #[v0, v1] := by cases args; simp_all
  obtain ⟨rfl, rfl⟩ := trodVars_none hV
  obtain ⟨y, a, L, cap, rfl, hy, hc, h63, hin, hok⟩ := open_req (hval 0 25 v0 rfl rfl) h0
  obtain ⟨s, rfl, rfl, rfl, w1⟩ := ChangeMaps.open_string Try.underlying9 (hval 1 9 v1 rfl rfl) h1
  have z1 : s.size ≤ 9223372036854775807 := w1
  clear hA0 hval0
  refine (reqBack_walk y hy a L cap hc h63 s z1 W hin hok).mono fun e W' ⟨he, hb⟩ => ?_
  subst he
  exact ⟨_, rfl, post_law laidOut (of_decide_eq_true (by kernel_rfl)) rfl rfl Try.underlying4 hW' ⟨rfl, rfl, rfl⟩ hb⟩

/-- THE STATEMENT -/
theorem reqBack_holds : Rows.ReqBackSaid :=
  OpenClaim.holds_of_wide 4 Try.f4 rfl rfl rfl rfl rfl rfl rfl ⟨rfl, rfl, rfl, rfl, rfl⟩ rfl rfl rfl rfl rfl (by kernel_rfl) Try.func4 (by kernel_rfl)
    (of_decide_eq_true (by kernel_rfl)) (by unfold Func.isWrapper; first | (rw [if_pos (by decide +kernel)]; kernel_rfl) | (rw [if_neg (by decide +kernel)]; exact ⟨rfl, rfl⟩))
    (fun os started H enc _ => reqBack_lifted os started H enc)

end Go.Proofs.Ytkbikflincjhhaa
