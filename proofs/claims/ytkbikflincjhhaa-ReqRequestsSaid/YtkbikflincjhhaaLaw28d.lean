/-
  The bytes of every request, and the request of all bytes, are the document's, or there are none (P28.1): for every request, text and turned byte.
-/
import Derived.Test.YtkbikflincjhhaaLaw28
import Derived.Test.YtkbikflincjhhaaReqS
import Derived.Test.YtkbikflincjhhaaKitT
import Derived.Test.YtkbikflincjhhaaReqD1
import Derived.Test.YtkbikflincjhhaaReqD2
import Derived.Test.YtkbikflincjhhaaReqD3
import Derived.Test.YtkbikflincjhhaaReqD4
import Derived.Test.YtkbikflincjhhaaReqD5
import Derived.Test.YtkbikflincjhhaaReqD6
import Derived.Test.YtkbikflincjhhaaReqD7
import Derived.Test.YtkbikflincjhhaaReqD8
import Derived.Test.YtkbikflincjhhaaReqD9
import Derived.Test.YtkbikflincjhhaaReqD10

namespace Go.Proofs.Ytkbikflincjhhaa
set_option linter.unusedSimpArgs false
set_option linter.unusedVariables false
open Go.RowKit Go.WideShapes Go.ChangeShapes Go.ChangeAt Go.Deep
theorem bs_to (l : List UInt8) (b : Nat) : (bs l).extract 0 b = bs (l.take b) := by
  apply ByteArray.ext
  simp [bs]
/-- what a region reads -/
def SP (ab rb q n1 zz : Nat) (a0 : Int) (b3 b4 : ByteArray) (W : World) : Prop :=
  W.cell? ⟨ab, 0, none⟩ = some (.int .u16 a0) ∧
  (convert 50 9 (.slice (some ⟨rb, 0, none⟩) n1 (n1 + zz))).run Try.prog W = .ok (.string b3) W ∧
  (convert 50 9 (.slice (some ⟨rb, 0, none⟩) q (n1 + zz))).run Try.prog W = .ok (.string b4) W
theorem SP.of {ab rb q n1 zz : Nat} {a0 a1 : Int} {T : List UInt8} {W : World} {fr : Nat × Nat} (ha : W.heap[ab]? = some (.cells #[.int .u16 a0, .int .u16 a1] 27 (0, 0))) (hr : W.heap[rb]? = some (.cells (rowC T zz) 5 fr)) (hl : T.length = n1) (hq : q ≤ n1) : SP ab rb q n1 zz a0 (bs T) (bs (T.take q)) W := by
  refine ⟨cell_of_block ha 0, conv_bytes W rb 0 n1 _ T hl (fun i hi => ?_), conv_bytes W rb 0 q _ (T.take q) (by rw [List.length_take]; omega) (fun i hi => ?_)⟩
  · rw [Nat.zero_add, cell_of_block hr, rowC_at T zz i (by omega)]
  · rw [Nat.zero_add, cell_of_block hr, rowC_at T zz i (by omega)]
    simp [List.getD, List.getElem?_take, hi]
theorem xor_byte (x : UInt8) (a : Int) (h0 : 0 ≤ a) (h1 : a ≤ 255) : ∃ y : UInt8, bits .xor .u8 (x.toNat : Int) a = (y.toNat : Int) := by
  refine ⟨x ^^^ UInt8.ofNat a.toNat, ?_⟩
  have h2 : (UInt8.ofNat a.toNat).toNat = a.toNat := by simp; omega
  rw [UInt8.toNat_xor, h2, ← u8_xor_nat _ _ (x.toNat_lt) (by omega), Int.toNat_of_nonneg h0]
theorem six_strings {W : World} {sb t : Nat} {b0 b1 b2 b3 b4 b5 : ByteArray} {N : Nat} (h : W.heap[sb]? = some (.cells #[.string b0, .string b1, .string b2, .string b3, .string b4, .string b5] t (0, 0)))
    (h0 : ∃ q : List UInt8, b0 = bs q ∧ q.length ≤ N) (h1 : ∃ q : List UInt8, b1 = bs q ∧ q.length ≤ N) (h2 : ∃ q : List UInt8, b2 = bs q ∧ q.length ≤ N) (h3 : ∃ q : List UInt8, b3 = bs q ∧ q.length ≤ N) (h4 : ∃ q : List UInt8, b4 = bs q ∧ q.length ≤ N) (h5 : ∃ q : List UInt8, b5 = bs q ∧ q.length ≤ N) (i : Nat) (hi : i < 6) :
    ∃ q : List UInt8, q.length ≤ N ∧ W.cell? ⟨sb, i, none⟩ = some (.string (bs q)) := by
  have hc : i = 0 ∨ i = 1 ∨ i = 2 ∨ i = 3 ∨ i = 4 ∨ i = 5 := by omega
  rcases hc with rfl | rfl | rfl | rfl | rfl | rfl
  · obtain ⟨q, rfl, hq⟩ := h0; exact ⟨q, hq, cell_of_block h 0⟩
  · obtain ⟨q, rfl, hq⟩ := h1; exact ⟨q, hq, cell_of_block h 1⟩
  · obtain ⟨q, rfl, hq⟩ := h2; exact ⟨q, hq, cell_of_block h 2⟩
  · obtain ⟨q, rfl, hq⟩ := h3; exact ⟨q, hq, cell_of_block h 3⟩
  · obtain ⟨q, rfl, hq⟩ := h4; exact ⟨q, hq, cell_of_block h 4⟩
  · obtain ⟨q, rfl, hq⟩ := h5; exact ⟨q, hq, cell_of_block h 5⟩
theorem rdec_any (l : List UInt8) (hl : l.length ≤ 1000000) (h1 : 1 ≤ l.length) (w : World) : Calls Try.prog 11 #[.string (bs l)] w (RDecIs l w) := by
  by_cases hk : kd l = 0 ∨ 14 < kd l
  · exact rdec_other l hl h1 (kd l) hk rfl w
  · rcases kinds (l := l) (by omega) (by omega) with h | h | h | h | h | h | h | h | h | h | h | h | h | h
    · exact rdec_1 l hl h1 h w
    · exact rdec_2 l hl h1 h w
    · exact rdec_3 l hl h1 h w
    · exact rdec_4 l hl h1 h w
    · exact rdec_5 l hl h1 h w
    · exact rdec_6 l hl h1 h w
    · exact rdec_7 l hl h1 h w
    · exact rdec_8 l hl h1 h w
    · exact rdec_9 l hl h1 h w
    · exact rdec_10 l hl h1 h w
    · exact rdec_11 l hl h1 h w
    · exact rdec_12 l hl h1 h w
    · exact rdec_13 l hl h1 h w
    · exact rdec_14 l hl h1 h w
set_option maxRecDepth 100000 in
theorem rdec_empty (w : World) : Calls Try.prog 11 #[.string (bs [])] w (RDecIs [] w) := by
  have HND := hide (show ¬ decO [] = true from by decide)
  rw [show bs [] = ⟨#[]⟩ from rfl]
  go_enter Try.func11, Try.ntmps11
  go_wp2_with fail
  exact bodyPost_ret (res_cell2 (P := Try.prog) rfl _ _ w.heap.size 42 rdZ (0, 0) _ rfl ((heap_old _ _ _ (by rw [alloc_size]; omega)).trans (heap_new _ _)) Try.underlying42 rfl (by kernel_rfl)) rfl (rdec_end_no HND.out (by go_grown))
theorem rdec_all (l : List UInt8) (hl : l.length ≤ 1000000) (w : World) : Calls Try.prog 11 #[.string (bs l)] w (RDecIs l w) := by
  by_cases h : 1 ≤ l.length
  · exact rdec_any l hl h w
  · have : l = [] := List.length_eq_zero_iff.1 (by omega)
    subst this
    exact rdec_empty w
theorem wpList_rowLoadG2 {P : Program} {ops : Array Oper} {rest : List Oper} {o : Oper} {a : Act} {w : World} {Q : Exit → Act → World → Prop} (hw : Region.wanted o (yielded ops a.tmps) = true) (ty : TypeId) (x : Operand) (ho : o.op = .load ty x)
    (g : Nat) (hx : a.eval x = .pointer (some ⟨g, 0, none⟩)) (t : TypeId) (cs : Array Value) (fr : Nat × Nat) (d : TypeDesc) (hg : w.heap[g]? = some (.cells cs t fr))
    (hu : P.underlying ty = some d) (hd : (match d with | .struct _ | .array _ _ => true | _ => false) = true) (hi : (P.info? ty).map (·.size) = some cs.size)
    (h : wpList P ops Q rest (a.put o.dst (.agg cs)) w) : wpList P ops Q (o :: rest) a w :=
  wpList_step fun _ hK => by
    rw [if_pos hw]
    exact wp_load_row ty x ho g hx t cs fr d hg hu hd hi (hK _ _ h)
theorem encD_any (y : RqM) (hy : InOk y) (L : List LnM) (hok : ∀ x ∈ L, LnOk x) (n : Nat) (hn : n ≤ 10) (hl : n ≤ L.length) (a2 : Option Addr) (c2 : Nat) (w : World) (hin : LnIn w a2 (L.take n)) :
    Calls Try.prog 9 #[.agg #[.int .u8 y.k, .int .i64 y.code, .int .u8 y.ak, .string (nmB y.name), .int .u64 y.key, .int .i64 y.ref, .int .i64 y.amt, .int .i64 y.n, .slice a2 n c2]] w (RqEIs (reqM y L n) w) := by
  have h := rq_enc (reqM y L n) (reqM_ok hy hok hn) (nmB_size y.name) a2 c2 w hin
  have e : (reqM y L n).L.length = n := by show (L.take n).length = n; rw [List.length_take]; omega
  rw [e] at h
  exact h
theorem out_small (x : RqM) : ∃ l : List UInt8, outS (encOk x) (encT x) = bs l ∧ l.length ≤ 260 := by
  by_cases h : encOk x = true
  · exact ⟨encT x, if_pos h, dec_short (enc_dec x h).1⟩
  · exact ⟨[], if_neg h, by show 0 ≤ 260; omega⟩
theorem decX_ek (l : List UInt8) : 0 ≤ (decX l).k ∧ (decX l).ek = (if (decX l).k ≤ 9 then (decX l).k else 0) ∧ (decX l).L.length ≤ 20 := by
  unfold decX
  by_cases h : decO l = true
  · rw [if_pos h]
    refine ⟨by show (0 : Int) ≤ (kd l : Int); omega, ?_, (decR_ok l h).few⟩
    show (if kd l ≤ 9 then (kd l : Int) else 0) = (if (kd l : Int) ≤ 9 then (kd l : Int) else 0)
    by_cases h9 : kd l ≤ 9
    · rw [if_pos h9, if_pos (by omega)]
    · rw [if_neg h9, if_neg (by omega)]
  · rw [if_neg h]; exact ⟨by decide, by decide, by decide⟩
set_option maxRecDepth 100000 in
set_option maxHeartbeats 2000000 in
theorem reqRequests_walk (y : RqM) (hy : InOk y) (a : Option Addr) (L : List LnM) (cap : Nat) (hcap : L.length ≤ cap) (h63 : L.length ≤ 9223372036854775807) (s : ByteArray) (hs : s.size ≤ 9223372036854775807) (a0 a1 : Int) (a00 : 0 ≤ a0) (a01 : a0 ≤ 65535) (a10 : 0 ≤ a1) (a11 : a1 ≤ 65535) (w : World) (hin : LnIn w a L) (hok : ∀ x ∈ L, LnOk x) :
    Calls Try.prog 3 #[.agg #[.int .u8 y.k, .int .i64 y.code, .int .u8 y.ak, .string y.name, .int .u64 y.key, .int .i64 y.ref, .int .i64 y.amt, .int .i64 y.n, .slice a L.length cap], .string s, .agg #[.int .u16 a0, .int .u16 a1]] w fun e w' => e = .returned (.bool true) ∧ Below w.heap.size w w' := by
  obtain ⟨n, hn⟩ : ∃ n, min L.length 10 = n := ⟨_, rfl⟩
  have hn10 : n ≤ 10 := by omega
  have hnl : n ≤ L.length := by omega
  have HOF := hide (fun W hW => of_any y hy L a cap n hn hcap W hW)
  have HEN := hide (fun a1 c1 W hW => encP_any y hy L hok n hn10 hnl a1 c1 W hW)
  have XS := hide (heap_new w (.cells #[.int .u8 y.k, .int .i64 y.code, .int .u8 y.ak, .string y.name, .int .u64 y.key, .int .i64 y.ref, .int .i64 y.amt, .int .i64 y.n, .slice a L.length cap] 25))
  have BS := hide ((Below.refl w.heap.size w).alloc (Nat.le_refl _) (.cells #[.int .u8 y.k, .int .i64 y.code, .int .u8 y.ak, .string y.name, .int .u64 y.key, .int .i64 y.ref, .int .i64 y.amt, .int .i64 y.n, .slice a L.length cap] 25))
  have HIN := hide (hin.below BS.out)
  have HED := hide (fun a2 c2 W hW => encD_any y hy L hok n hn10 hnl a2 c2 W hW)
  obtain ⟨x, hx⟩ : ∃ x, x = reqM y L n := ⟨_, rfl⟩
  have hxk : x.k = y.k := by rw [hx]; rfl
  rw [← hx] at HEN HED
  unfold RqEIs at HED
  unfold EncIs at HEN
  have HXOK := hide (show RqOk x from hx ▸ reqM_ok hy hok hn10)
  have HXK := hide hxk
  clear hin hx hxk hn hcap hok hy h63 hn10 hnl
  unfold OfIs at HOF
  have s1 : (w.alloc (.cells #[.int .u8 y.k, .int .i64 y.code, .int .u8 y.ak, .string y.name, .int .u64 y.key, .int .i64 y.ref, .int .i64 y.amt, .int .i64 y.n, .slice a L.length cap] 25)).heap.size = w.heap.size + 1 := Array.size_push ..
  have hal := (Below.refl (w.alloc (.cells #[.int .u8 y.k, .int .i64 y.code, .int .u8 y.ak, .string y.name, .int .u64 y.key, .int .i64 y.ref, .int .i64 y.amt, .int .i64 y.n, .slice a L.length cap] 25)).heap.size (w.alloc (.cells #[.int .u8 y.k, .int .i64 y.code, .int .u8 y.ak, .string y.name, .int .u64 y.key, .int .i64 y.ref, .int .i64 y.amt, .int .i64 y.n, .slice a L.length cap] 25))).alloc (Nat.le_refl _) (.cells #[.int .u16 a0, .int .u16 a1] 27)
  have XK := hide (heap_new (w.alloc (.cells #[.int .u8 y.k, .int .i64 y.code, .int .u8 y.ak, .string y.name, .int .u64 y.key, .int .i64 y.ref, .int .i64 y.amt, .int .i64 y.n, .slice a L.length cap] 25)) (.cells #[.int .u16 a0, .int .u16 a1] 27))
  have XS0 := hide ((hal.block _ (heap_lt XS.out)).trans XS.out)
  have HIN0 := hide (HIN.out.below hal)
  have BS0 := hide (BS.out.trans (hal.mono BS.out.size))
  rw [s1] at XK
  clear hal s1 XS HIN BS
  go_enter Try.func3, Try.ntmps3
  go_upto_region 1 with (fail)
  generalize (w.alloc (.cells #[.int .u8 y.k, .int .i64 y.code, .int .u8 y.ak, .string y.name, .int .u64 y.key, .int .i64 y.ref, .int .i64 y.amt, .int .i64 y.n, .slice a L.length cap] 25)).alloc (.cells #[.int .u16 a0, .int .u16 a1] 27) = w1 at *
  generalize w.heap.size + 1 = kb at XK ⊢
  generalize hsb : w.heap.size = sb at XS0 ⊢
  clear hsb
  go_cut [1] from 20 to 24 (fun t W => W = w1 ∧ ∃ R : List UInt8, t = .string (bs R) ∧ R.length ≤ 300)
  case first =>
    rcases nmB_cases s with ⟨hb, h2⟩ | ⟨hb, h2⟩
    · have hmI : min (s.size : Int) 300 = 300 := by omega
      have hb2 : (300 : Int) ≤ (s.size : Int) := by omega
      go_wp2_with fail
      go_meet
      exact ⟨rfl, (s.extract 0 300).data.toList, rfl, by rw [size_list, ByteArray.size_extract]; omega⟩
    · have hmI : min (s.size : Int) 300 = (s.size : Int) := by omega
      go_wp2_with fail
      go_meet
      first
        | exact ⟨rfl, s.data.toList, rfl, by rw [size_list]; omega⟩
        | exact ⟨rfl, (s.extract 0 s.size).data.toList, rfl, by rw [size_list, ByteArray.size_extract]; omega⟩
  case rest =>
  obtain ⟨rfl, Rr, rfl, hRl⟩ := hcut
  obtain ⟨e0, e1, e2, e3, e4, e5, e6, e7, e8⟩ := row9_facts XS0.out
  go_wp2_with fail
  refine (HOF.out _ HIN0.out).mono ?_
  rintro e w2 ⟨q1, c1, q2, c2, rfl, hl1, hl2, hb⟩
  have hal := (Below.refl w2.heap.size w2).alloc (Nat.le_refl _) (.cells #[.int .u8 y.k, .int .u8 77, .int .u64 y.key, .int .i64 y.ref, .int .i64 y.amt, .int .i64 y.code, .int .u8 y.ak, .string (nmB y.name), .slice q1 n c1, .int .i64 y.n] 39)
  have hal2 := (Below.refl _ (w2.alloc (.cells #[.int .u8 y.k, .int .u8 77, .int .u64 y.key, .int .i64 y.ref, .int .i64 y.amt, .int .i64 y.code, .int .u8 y.ak, .string (nmB y.name), .slice q1 n c1, .int .i64 y.n] 39))).alloc (Nat.le_refl _) (.cells #[.int .u8 y.k, .int .i64 y.code, .int .u8 y.ak, .string (nmB y.name), .int .u64 y.key, .int .i64 y.ref, .int .i64 y.amt, .int .i64 y.n, .slice q2 n c2] 42)
  have s2 : (w2.alloc (.cells #[.int .u8 y.k, .int .u8 77, .int .u64 y.key, .int .i64 y.ref, .int .i64 y.amt, .int .i64 y.code, .int .u8 y.ak, .string (nmB y.name), .slice q1 n c1, .int .i64 y.n] 39)).heap.size = w2.heap.size + 1 := Array.size_push ..
  have XA := hide ((hal2.block _ (by simp)).trans (heap_new w2 (.cells #[.int .u8 y.k, .int .u8 77, .int .u64 y.key, .int .i64 y.ref, .int .i64 y.amt, .int .i64 y.code, .int .u8 y.ak, .string (nmB y.name), .slice q1 n c1, .int .i64 y.n] 39)))
  have XD := hide (heap_new (w2.alloc (.cells #[.int .u8 y.k, .int .u8 77, .int .u64 y.key, .int .i64 y.ref, .int .i64 y.amt, .int .i64 y.code, .int .u8 y.ak, .string (nmB y.name), .slice q1 n c1, .int .i64 y.n] 39)) (.cells #[.int .u8 y.k, .int .i64 y.code, .int .u8 y.ak, .string (nmB y.name), .int .u64 y.key, .int .i64 y.ref, .int .i64 y.amt, .int .i64 y.n, .slice q2 n c2] 42))
  rw [s2] at XD
  have L1 := hide ((hl1.below hal).below hal2)
  have L2 := hide ((hl2.below hal).below hal2)
  have B2 := hide (((BS0.out.trans (hb.mono BS0.out.size)).trans (hal.mono (Nat.le_trans BS0.out.size hb.size))).trans (hal2.mono (Nat.le_trans (Nat.le_trans BS0.out.size hb.size) hal.size)))
  have XK1 := (hb.block _ (heap_lt XK.out)).trans XK.out
  have XK2 := (hal.block _ (heap_lt XK1)).trans XK1
  have XK3 := hide ((hal2.block _ (heap_lt XK2)).trans XK2)
  clear hl1 hl2 hb hal hal2 s2 XK1 XK2 XK e0 e1 e2 e3 e4 e5 e6 e7 e8 HOF HIN0 XS0 BS0
  go_upto_region 3 with (fail)
  generalize (w2.alloc (.cells #[.int .u8 y.k, .int .u8 77, .int .u64 y.key, .int .i64 y.ref, .int .i64 y.amt, .int .i64 y.code, .int .u8 y.ak, .string (nmB y.name), .slice q1 n c1, .int .i64 y.n] 39)).alloc (.cells #[.int .u8 y.k, .int .i64 y.code, .int .u8 y.ak, .string (nmB y.name), .int .u64 y.key, .int .i64 y.ref, .int .i64 y.amt, .int .i64 y.n, .slice q2 n c2] 42) = w3 at *
  generalize w2.heap.size + 1 = db at *
  generalize w2.heap.size = ab at *
  obtain ⟨⟨e0, e1, e2, e3, e4, e5, e6, e7, e8, e9⟩, -⟩ := row10_facts XA.out
  go_wp2_with fail
  refine (HEN.out _ _ _ L1.out).mono ?_
  rintro e w4 ⟨rfl, hb⟩
  have XD4 := hide ((hb.block _ (heap_lt XD.out)).trans XD.out)
  have XK4 := hide ((hb.block _ (heap_lt XK3.out)).trans XK3.out)
  have L4 := hide (L2.out.below hb)
  have B4 := hide (B2.out.trans (hb.mono B2.out.size))
  clear hb e0 e1 e2 e3 e4 e5 e6 e7 e8 e9 HEN XA XD XK3 L1 L2 B2
  obtain ⟨e0, e1, e2, e3, e4, e5, e6, e7, e8⟩ := row9_facts XD4.out
  go_wp2_with fail
  refine (HED.out _ _ _ L4.out).mono ?_
  rintro e w5 ⟨rfl, hb⟩
  have XK5 := hide ((hb.block _ (heap_lt XK4.out)).trans XK4.out)
  have B5 := hide (B4.out.trans (hb.mono B4.out.size))
  clear hb e0 e1 e2 e3 e4 e5 e6 e7 e8 HED XD4 XK4 L4 B4
  rw [show rencS x = outS (encOk x) (encT x) from rfl]
  obtain ⟨sL, hsL, hl1⟩ := out_small x
  have HTF := hide (show (encOk x = true ∧ outE (encOk x) = 0) ∨ (encOk x = false ∧ outE (encOk x) = 2 ∧ bs sL = ⟨#[]⟩) from by
    by_cases he : encOk x = true
    · exact Or.inl ⟨he, by rw [he]; rfl⟩
    · have he : encOk x = false := by simpa using he
      exact Or.inr ⟨he, by rw [he]; rfl, by rw [← hsL, he]; rfl⟩)
  rw [hsL]
  clear hsL
  generalize outE (encOk x) = oe at *
  generalize encOk x = ok at *
  obtain ⟨t, ht⟩ : ∃ t, bs sL = t := ⟨_, rfl⟩
  have HTT := hide ht
  rw [ht] at HTF ⊢
  clear ht
  go_upto_region 5 with (fail)
  go_cut [67] from 40 to 67 (fun c W => c = .bool false ∧ W.heap[kb]? = some (.cells #[.int .u16 a0, .int .u16 a1] 27 (0, 0)) ∧ Below w.heap.size w W)
  case first =>
    rcases HTF.out with ⟨rfl, rfl⟩ | ⟨rfl, rfl, rfl⟩
    · go_wp2_with fail
      go_meet
      exact ⟨rfl, XK5.out, B5.out⟩
    · go_wp2_with fail
      go_meet
      exact ⟨rfl, XK5.out, B5.out⟩
  case rest =>
  obtain ⟨rfl, hk4, hb4⟩ := hcut
  have HA4 := hide hk4
  have HB4 := hide hb4
  clear hk4 hb4 XK5 B5
  rw [← HTT.out]
  clear HTT HTF
  generalize hgw : wc = w4 at *
  clear hgw
  obtain ⟨q, hq⟩ : ∃ q : Nat, sL.length = q := ⟨_, rfl⟩
  have hss : ((bs sL).size : Int) = (q : Int) := by rw [bs_size, hq]
  have hql : q ≤ 260 := by omega
  obtain ⟨n1, hn1⟩ : ∃ n1 : Nat, q + 1 = n1 := ⟨_, rfl⟩
  have hcatx : bs sL ++ ByteArray.mk #[120] = bs (sL ++ [120]) := by rw [show ByteArray.mk #[120] = bs [120] from rfl, bs_append]
  have hszx : ¬ 9223372036854775807 < (bs sL).size + 1 := by rw [bs_size]; omega
  have hszr : ¬ 9223372036854775807 < (bs sL).size + (bs Rr).size := by rw [bs_size, bs_size]; omega
  have hcatr : bs sL ++ bs Rr = bs (sL ++ Rr) := bs_append _ _
  obtain ⟨zz, w5, hcv, hb5, hs5, hrow⟩ := conv_text w4 (bs (sL ++ [120]))
  have hsz3 : (bs (sL ++ [120])).size = n1 := by rw [bs_size, List.length_append, List.length_singleton]; omega
  have hTl : (sL ++ [120]).length = n1 := by rw [List.length_append, List.length_singleton]; omega
  rw [hsz3] at hcv hrow
  rw [show (bs (sL ++ [120])).data.toList = sL ++ [120] from rfl] at hrow
  have HB5 := hide (HB4.out.trans (hb5.mono HB4.out.size))
  have HA5 := hide ((hb5.block _ (heap_lt HA4.out)).trans HA4.out)
  have HRW := hide hrow
  have hrb := heap_lt hrow
  have hab := heap_lt HA4.out
  have hwr := HB4.out.size
  obtain ⟨i, hi⟩ := Int.eq_ofNat_of_zero_le (show 0 ≤ a0 % (n1 : Int) from Int.emod_nonneg _ (by omega))
  have hin1 : i < n1 := by have := Int.emod_lt_of_pos a0 (show (0 : Int) < (n1 : Int) by omega); omega
  have hit : a0.tmod (n1 : Int) = (i : Int) := by rw [Int.tmod_eq_emod_of_nonneg a00]; exact hi
  obtain ⟨k, hk⟩ := Int.eq_ofNat_of_zero_le (show 0 ≤ a0 % ((q : Int) + 1) from Int.emod_nonneg _ (by omega))
  have hkq : k ≤ q := by have := Int.emod_lt_of_pos a0 (show (0 : Int) < (q : Int) + 1 by omega); omega
  have hkt : a0.tmod ((q : Int) + 1) = (k : Int) := by rw [Int.tmod_eq_emod_of_nonneg a00]; exact hk
  have HEX := hide (bs_to sL k)
  obtain ⟨x', hx'⟩ := xor_byte ((sL ++ [120]).getD i 0) (a1 % 256) (Int.emod_nonneg _ (by omega)) (by have := Int.emod_lt_of_pos a1 (show (0 : Int) < 256 by omega); omega)
  have x0 : w5.cell? ⟨kb, 0, none⟩ = some (.int .u16 a0) := cell_of_block HA5.out 0
  have x1 : w5.cell? ⟨kb, 1, none⟩ = some (.int .u16 a1) := cell_of_block HA5.out 1
  have y0 : w5.cell? ⟨w4.heap.size, i, none⟩ = some (.int .u8 (((sL ++ [120]).getD i 0).toNat : Int)) := by rw [cell_of_block HRW.out, rowC_at _ zz i (by omega)]
  have hfr : w5.frozen? ⟨w4.heap.size, i, none⟩ = false := by simp only [World.frozen?, HRW.out]; simp; omega
  have hiI : (i : Int) < (n1 : Int) := by omega
  have hn0 : ¬ (n1 : Int) = 0 := by omega
  have HTL := hide (show ((sL ++ [120]).set i x').length = n1 by rw [List.length_set]; exact hTl)
  have HR6 := hide (show (w5.setCell ⟨w4.heap.size, i, none⟩ (.int .u8 (x'.toNat : Int))).heap[w4.heap.size]? = some (.cells (rowC ((sL ++ [120]).set i x') zz) 5 (n1 + zz, n1 + zz + 1)) from by
    rw [← rowC_set (sL ++ [120]) zz i (by omega) x']
    exact block_setCell HRW.out _ _)
  have HA6 := hide (show (w5.setCell ⟨w4.heap.size, i, none⟩ (.int .u8 (x'.toNat : Int))).heap[kb]? = some (.cells #[.int .u16 a0, .int .u16 a1] 27 (0, 0)) from by
    rw [block_setCell_other (by omega)]; exact HA5.out)
  have HB6 := hide (HB5.out.setCell (p := ⟨w4.heap.size, i, none⟩) (show w.heap.size ≤ w4.heap.size by omega) (.int .u8 (x'.toNat : Int)))
  clear hrow hb5 hs5 hTl HRW HA4 HB4 
  generalize ((sL ++ [120]).getD i 0).toNat = xv at *
  generalize (sL ++ [120]).set i x' = T' at *
  go_upto_region 8 with (fail)
  go_region
  have HR7 := hide (show (w5.setCell ⟨w4.heap.size, i, none⟩ (.int .u8 (x'.toNat : Int))).drew.heap[w4.heap.size]? = _ from HR6.out)
  have HA7 := hide (show (w5.setCell ⟨w4.heap.size, i, none⟩ (.int .u8 (x'.toNat : Int))).drew.heap[kb]? = _ from HA6.out)
  have HB7 := hide HB6.out.drew
  clear HR6 HA6  HB6 HA5 HB5  x0 x1 y0 hfr hcv
  generalize (w5.setCell ⟨w4.heap.size, i, none⟩ (.int .u8 (x'.toNat : Int))).drew = w9 at *
  generalize w4.heap.size = rb at *
  go_upto_region 9 with (fail)
  have hq1 : (n1 : Int) - 1 = (q : Int) := by omega
  have hqn : (q : Int) ≤ (n1 : Int) + (zz : Int) := by omega
  have hkq' : (k : Int) ≤ (q : Int) := by omega
  have hq0 : ¬ (q : Int) + 1 = 0 := by omega
  have hqb : (q : Int) ≤ 260 := by omega
  have hwq : IntKind.i64.wrap (q : Int) = (q : Int) := by rw [IntKind.wrap_i64]; omega
  have hwq1 : IntKind.i64.wrap ((q : Int) + 1) = (q : Int) + 1 := by rw [IntKind.wrap_i64]; omega
  have hwa : IntKind.i64.wrap a0 = a0 := by rw [IntKind.wrap_i64]; omega
  have HSPF := hide (fun (W : World) (h1 : W.heap[kb]? = some (.cells #[.int .u16 a0, .int .u16 a1] 27 (0, 0))) (h2 : W.heap[rb]? = some (.cells (rowC T' zz) 5 (n1 + zz, n1 + zz + 1))) => SP.of (q := q) h1 h2 HTL.out (by omega))
  have HAv0 := hide (show w9.drew.heap[kb]? = _ from HA7.out)
  have HRv0 := hide (show w9.drew.heap[rb]? = _ from HR7.out)
  have HSPv0 := hide (HSPF.out _ HAv0.out HRv0.out)
  have HBv0 := hide HB7.out.drew
  have H0 := hide (show ∃ p : List UInt8, bs Rr = bs p ∧ p.length ≤ 1000 from ⟨Rr, rfl, by omega⟩)
  have H1 := hide (show ∃ p : List UInt8, bs sL = bs p ∧ p.length ≤ 1000 from ⟨sL, rfl, by omega⟩)
  have H2 := hide (show ∃ p : List UInt8, bs (sL ++ Rr) = bs p ∧ p.length ≤ 1000 from ⟨_, rfl, by rw [List.length_append]; omega⟩)
  have H3 := hide (show ∃ p : List UInt8, bs T' = bs p ∧ p.length ≤ 1000 from ⟨_, rfl, by rw [HTL.out]; omega⟩)
  have H4 := hide (show ∃ p : List UInt8, bs (T'.take q) = bs p ∧ p.length ≤ 1000 from ⟨_, rfl, by rw [List.length_take]; omega⟩)
  have H5 := hide (show ∃ p : List UInt8, bs (sL.take k) = bs p ∧ p.length ≤ 1000 from ⟨_, rfl, by rw [List.length_take]; omega⟩)
  have hex := HEX.out
  clear HA7 HR7  HB7 hi hk hx' hcatx hq hn1 hql hl1 HTL HEX
  generalize bs (sL.take k) = b5 at *
  generalize bs (T'.take q) = b4 at *
  generalize bs T' = b3 at *
  generalize bs (sL ++ Rr) = b2 at *
  generalize bs sL = b1 at *
  generalize bs Rr = b0 at *
  refine wp_region_held_drew (S := (SP kb rb q n1 zz a0 b3 b4)) (by kernel_rfl) (HSPv0.out) (fun hHeld => ?_)
  generalize w9.drew = v0 at *
  refine wpAnyH_take (i := 0) (oi := { dst := some 85, op := Op.move (Operand.tmp 1), type := 9, pos := "law.go:86", after := #[], guard := none }) (v := ?_) rfl (by kernel_rfl) (by kernel_rfl) (by kernel_rfl) (fun _ _ _ h => h) (Or.inl ⟨by kernel_rfl, ?_⟩) hHeld ?_
  rotate_left
  · (intro w hSw; (try dsimp only at hSw); (try unfold SP at hSw); go_simp); try with_reducible rfl
  try simp only [Act.put, List.setIfInBounds_toArray, List.set_cons_zero, List.set_cons_succ]
  refine wpAnyH_take (i := 1) (oi := { dst := some 86, op := Op.move (Operand.tmp 9), type := 9, pos := "law.go:86", after := #[], guard := none }) (v := ?_) rfl (by kernel_rfl) (by kernel_rfl) (by kernel_rfl) (fun _ _ _ h => h) (Or.inl ⟨by kernel_rfl, ?_⟩) hHeld ?_
  rotate_left
  · (intro w hSw; (try dsimp only at hSw); (try unfold SP at hSw); go_simp); try with_reducible rfl
  try simp only [Act.put, List.setIfInBounds_toArray, List.set_cons_zero, List.set_cons_succ]
  refine wpAnyH_take (i := 2) (oi := { dst := some 87, op := Op.move (Operand.tmp 9), type := 9, pos := "law.go:86", after := #[], guard := none }) (v := ?_) rfl (by kernel_rfl) (by kernel_rfl) (by kernel_rfl) (fun _ _ _ h => h) (Or.inl ⟨by kernel_rfl, ?_⟩) hHeld ?_
  rotate_left
  · (intro w hSw; (try dsimp only at hSw); (try unfold SP at hSw); go_simp); try with_reducible rfl
  try simp only [Act.put, List.setIfInBounds_toArray, List.set_cons_zero, List.set_cons_succ]
  refine wpAnyH_take (i := 3) (oi := { dst := some 88, op := Op.move (Operand.tmp 1), type := 9, pos := "law.go:86", after := #[], guard := none }) (v := ?_) rfl (by kernel_rfl) (by kernel_rfl) (by kernel_rfl) (fun _ _ _ h => h) (Or.inl ⟨by kernel_rfl, ?_⟩) hHeld ?_
  rotate_left
  · (intro w hSw; (try dsimp only at hSw); (try unfold SP at hSw); go_simp); try with_reducible rfl
  try simp only [Act.put, List.setIfInBounds_toArray, List.set_cons_zero, List.set_cons_succ]
  refine wpAnyH_take (i := 4) (oi := { dst := some 89, op := Op.binOp BinOp.add 9 (Operand.tmp 87) (Operand.tmp 88) 9, type := 9, pos := "law.go:86", after := #[{ on := 2, ground := Ground.data }, { on := 3, ground := Ground.data }], guard := none }) (v := ?_) rfl (by kernel_rfl) (by kernel_rfl) (by kernel_rfl) (fun _ _ _ h => h) (Or.inl ⟨by kernel_rfl, ?_⟩) hHeld ?_
  rotate_left
  · (intro w hSw; (try dsimp only at hSw); (try unfold SP at hSw); go_simp); try with_reducible rfl
  try simp only [Act.put, List.setIfInBounds_toArray, List.set_cons_zero, List.set_cons_succ]
  refine wpAnyH_take (i := 5) (oi := { dst := some 90, op := Op.move (Operand.tmp 13), type := 50, pos := "law.go:86", after := #[], guard := none }) (v := ?_) rfl (by kernel_rfl) (by kernel_rfl) (by kernel_rfl) (fun _ _ _ h => h) (Or.inl ⟨by kernel_rfl, ?_⟩) hHeld ?_
  rotate_left
  · (intro w hSw; (try dsimp only at hSw); (try unfold SP at hSw); go_simp); try with_reducible rfl
  try simp only [Act.put, List.setIfInBounds_toArray, List.set_cons_zero, List.set_cons_succ]
  refine wpAnyH_take (i := 6) (oi := { dst := some 91, op := Op.convert 50 9 (Operand.tmp 90), type := 9, pos := "law.go:86", after := #[{ on := 5, ground := Ground.data }], guard := none }) (v := ?_) rfl (by kernel_rfl) (by kernel_rfl) (by kernel_rfl) (fun _ _ _ h => h) (Or.inl ⟨by kernel_rfl, ?_⟩) hHeld ?_
  rotate_left
  · (intro w hSw; (try dsimp only at hSw); (try unfold SP at hSw); go_simp); try with_reducible rfl
  try simp only [Act.put, List.setIfInBounds_toArray, List.set_cons_zero, List.set_cons_succ]
  refine wpAnyH_take (i := 7) (oi := { dst := some 92, op := Op.move (Operand.tmp 13), type := 50, pos := "law.go:86", after := #[], guard := none }) (v := ?_) rfl (by kernel_rfl) (by kernel_rfl) (by kernel_rfl) (fun _ _ _ h => h) (Or.inl ⟨by kernel_rfl, ?_⟩) hHeld ?_
  rotate_left
  · (intro w hSw; (try dsimp only at hSw); (try unfold SP at hSw); go_simp); try with_reducible rfl
  try simp only [Act.put, List.setIfInBounds_toArray, List.set_cons_zero, List.set_cons_succ]
  refine wpAnyH_take (i := 8) (oi := { dst := some 93, op := Op.move (Operand.tmp 13), type := 50, pos := "law.go:86", after := #[], guard := none }) (v := ?_) rfl (by kernel_rfl) (by kernel_rfl) (by kernel_rfl) (fun _ _ _ h => h) (Or.inl ⟨by kernel_rfl, ?_⟩) hHeld ?_
  rotate_left
  · (intro w hSw; (try dsimp only at hSw); (try unfold SP at hSw); go_simp); try with_reducible rfl
  try simp only [Act.put, List.setIfInBounds_toArray, List.set_cons_zero, List.set_cons_succ]
  refine wpAnyH_take (i := 9) (oi := { dst := some 94, op := Op.call { callee := Callee.builtin Builtin.len, args := #[Operand.tmp 93], argTypes := #[50] }, type := 3, pos := "law.go:86", after := #[{ on := 8, ground := Ground.data }], guard := none }) (v := ?_) rfl (by kernel_rfl) (by kernel_rfl) (by kernel_rfl) (fun _ _ _ h => h) (Or.inl ⟨by kernel_rfl, ?_⟩) hHeld ?_
  rotate_left
  · (intro w hSw; (try dsimp only at hSw); (try unfold SP at hSw); go_simp); try with_reducible rfl
  try simp only [Act.put, List.setIfInBounds_toArray, List.set_cons_zero, List.set_cons_succ]
  refine wpAnyH_take (i := 10) (oi := { dst := some 95, op := Op.binOp BinOp.sub 3 (Operand.tmp 94) (Operand.const (Value.int IntKind.i64 1)) 3, type := 3, pos := "law.go:86", after := #[{ on := 9, ground := Ground.data }], guard := none }) (v := ?_) rfl (by kernel_rfl) (by kernel_rfl) (by kernel_rfl) (fun _ _ _ h => h) (Or.inl ⟨by kernel_rfl, ?_⟩) hHeld ?_
  rotate_left
  · (intro w hSw; (try dsimp only at hSw); (try unfold SP at hSw); go_simp); try with_reducible rfl
  try simp only [Act.put, List.setIfInBounds_toArray, List.set_cons_zero, List.set_cons_succ]
  refine wpAnyH_take (i := 11) (oi := { dst := some 96, op := Op.slice 50 (Operand.tmp 92) none (some (Operand.tmp 95)) none, type := 50, pos := "law.go:86", after := #[{ on := 7, ground := Ground.data }, { on := 10, ground := Ground.data }], guard := none }) (v := ?_) rfl (by kernel_rfl) (by kernel_rfl) (by kernel_rfl) (fun _ _ _ h => h) (Or.inl ⟨by kernel_rfl, ?_⟩) hHeld ?_
  rotate_left
  · (intro w hSw; (try dsimp only at hSw); (try unfold SP at hSw); go_simp); try with_reducible rfl
  try simp only [Act.put, List.setIfInBounds_toArray, List.set_cons_zero, List.set_cons_succ]
  refine wpAnyH_take (i := 12) (oi := { dst := some 97, op := Op.convert 50 9 (Operand.tmp 96), type := 9, pos := "law.go:86", after := #[{ on := 11, ground := Ground.data }], guard := none }) (v := ?_) rfl (by kernel_rfl) (by kernel_rfl) (by kernel_rfl) (fun _ _ _ h => h) (Or.inl ⟨by kernel_rfl, ?_⟩) hHeld ?_
  rotate_left
  · (intro w hSw; (try dsimp only at hSw); (try unfold SP at hSw); go_simp); try with_reducible rfl
  try simp only [Act.put, List.setIfInBounds_toArray, List.set_cons_zero, List.set_cons_succ]
  refine wpAnyH_take (i := 13) (oi := { dst := some 98, op := Op.move (Operand.tmp 9), type := 9, pos := "law.go:86", after := #[], guard := none }) (v := ?_) rfl (by kernel_rfl) (by kernel_rfl) (by kernel_rfl) (fun _ _ _ h => h) (Or.inl ⟨by kernel_rfl, ?_⟩) hHeld ?_
  rotate_left
  · (intro w hSw; (try dsimp only at hSw); (try unfold SP at hSw); go_simp); try with_reducible rfl
  try simp only [Act.put, List.setIfInBounds_toArray, List.set_cons_zero, List.set_cons_succ]
  refine wpAnyH_take (i := 14) (oi := { dst := some 99, op := Op.indexAddr 27 (Operand.tmp 5) (Operand.const (Value.int IntKind.i64 0)), type := 0, pos := "law.go:86", after := #[], guard := none }) (v := ?_) rfl (by kernel_rfl) (by kernel_rfl) (by kernel_rfl) (fun _ _ _ h => h) (Or.inl ⟨by kernel_rfl, ?_⟩) hHeld ?_
  rotate_left
  · (intro w hSw; (try dsimp only at hSw); (try unfold SP at hSw); go_simp); try with_reducible rfl
  try simp only [Act.put, List.setIfInBounds_toArray, List.set_cons_zero, List.set_cons_succ]
  refine wpAnyH_take (i := 15) (oi := { dst := some 100, op := Op.load 26 (Operand.tmp 99), type := 26, pos := "law.go:86", after := #[{ on := 14, ground := Ground.data }], guard := none }) (v := ?_) rfl (by kernel_rfl) (by kernel_rfl) (by kernel_rfl) (fun _ _ _ h => h) (Or.inl ⟨by kernel_rfl, ?_⟩) hHeld ?_
  rotate_left
  · (intro w hSw; (try dsimp only at hSw); (try unfold SP at hSw); go_simp); try with_reducible rfl
  try simp only [Act.put, List.setIfInBounds_toArray, List.set_cons_zero, List.set_cons_succ]
  refine wpAnyH_take (i := 16) (oi := { dst := some 101, op := Op.convert 26 3 (Operand.tmp 100), type := 3, pos := "law.go:86", after := #[{ on := 15, ground := Ground.data }], guard := none }) (v := ?_) rfl (by kernel_rfl) (by kernel_rfl) (by kernel_rfl) (fun _ _ _ h => h) (Or.inl ⟨by kernel_rfl, ?_⟩) hHeld ?_
  rotate_left
  · (intro w hSw; (try dsimp only at hSw); (try unfold SP at hSw); go_simp); try with_reducible rfl
  try simp only [Act.put, List.setIfInBounds_toArray, List.set_cons_zero, List.set_cons_succ]
  refine wpAnyH_take (i := 17) (oi := { dst := some 102, op := Op.move (Operand.tmp 9), type := 9, pos := "law.go:86", after := #[], guard := none }) (v := ?_) rfl (by kernel_rfl) (by kernel_rfl) (by kernel_rfl) (fun _ _ _ h => h) (Or.inl ⟨by kernel_rfl, ?_⟩) hHeld ?_
  rotate_left
  · (intro w hSw; (try dsimp only at hSw); (try unfold SP at hSw); go_simp); try with_reducible rfl
  try simp only [Act.put, List.setIfInBounds_toArray, List.set_cons_zero, List.set_cons_succ]
  refine wpAnyH_take (i := 18) (oi := { dst := some 103, op := Op.call { callee := Callee.builtin Builtin.len, args := #[Operand.tmp 102], argTypes := #[9] }, type := 3, pos := "law.go:86", after := #[{ on := 17, ground := Ground.data }], guard := none }) (v := ?_) rfl (by kernel_rfl) (by kernel_rfl) (by kernel_rfl) (fun _ _ _ h => h) (Or.inl ⟨by kernel_rfl, ?_⟩) hHeld ?_
  rotate_left
  · (intro w hSw; (try dsimp only at hSw); (try unfold SP at hSw); go_simp); try with_reducible rfl
  try simp only [Act.put, List.setIfInBounds_toArray, List.set_cons_zero, List.set_cons_succ]
  refine wpAnyH_take (i := 19) (oi := { dst := some 104, op := Op.binOp BinOp.add 3 (Operand.tmp 103) (Operand.const (Value.int IntKind.i64 1)) 3, type := 3, pos := "law.go:86", after := #[{ on := 18, ground := Ground.data }], guard := none }) (v := ?_) rfl (by kernel_rfl) (by kernel_rfl) (by kernel_rfl) (fun _ _ _ h => h) (Or.inl ⟨by kernel_rfl, ?_⟩) hHeld ?_
  rotate_left
  · (intro w hSw; (try dsimp only at hSw); (try unfold SP at hSw); go_simp); try with_reducible rfl
  try simp only [Act.put, List.setIfInBounds_toArray, List.set_cons_zero, List.set_cons_succ]
  refine wpAnyH_take (i := 20) (oi := { dst := some 105, op := Op.binOp BinOp.rem 3 (Operand.tmp 101) (Operand.tmp 104) 3, type := 3, pos := "law.go:86", after := #[{ on := 16, ground := Ground.data }, { on := 19, ground := Ground.data }], guard := none }) (v := ?_) rfl (by kernel_rfl) (by kernel_rfl) (by kernel_rfl) (fun _ _ _ h => h) (Or.inl ⟨by kernel_rfl, ?_⟩) hHeld ?_
  rotate_left
  · (intro w hSw; (try dsimp only at hSw); (try unfold SP at hSw); go_simp); try with_reducible rfl
  try simp only [Act.put, List.setIfInBounds_toArray, List.set_cons_zero, List.set_cons_succ]
  refine wpAnyH_take (i := 21) (oi := { dst := some 106, op := Op.slice 9 (Operand.tmp 98) none (some (Operand.tmp 105)) none, type := 9, pos := "law.go:86", after := #[{ on := 13, ground := Ground.data }, { on := 20, ground := Ground.data }], guard := none }) (v := ?_) rfl (by kernel_rfl) (by kernel_rfl) (by kernel_rfl) (fun _ _ _ h => h) (Or.inl ⟨by kernel_rfl, ?_⟩) hHeld ?_
  rotate_left
  · (intro w hSw; (try dsimp only at hSw); (try unfold SP at hSw); go_simp); try with_reducible rfl
  try simp only [Act.put, List.setIfInBounds_toArray, List.set_cons_zero, List.set_cons_succ]
  refine wpAnyH_take (i := 24) (oi := { dst := some 109, op := Op.move (Operand.const (Value.int IntKind.i64 0)), type := 3, pos := "law.go:86", after := #[], guard := none }) (v := ?_) rfl (by kernel_rfl) (by kernel_rfl) (by kernel_rfl) (fun _ _ _ h => h) (Or.inl ⟨by kernel_rfl, ?_⟩) hHeld ?_
  rotate_left
  · (intro w hSw; (try dsimp only at hSw); (try unfold SP at hSw); go_simp); try with_reducible rfl
  try simp only [Act.put, List.setIfInBounds_toArray, List.set_cons_zero, List.set_cons_succ]
  refine wpAnyH_ready (rs := [22]) (by kernel_rfl) (by simp) (AllReadyH.cons (o := { dst := some 107, op := Op.buildSlice 51 6 #[(0, Operand.tmp 85), (1, Operand.tmp 86), (2, Operand.tmp 89), (3, Operand.tmp 91), (4, Operand.tmp 97), (5, Operand.tmp 106)], type := 51, pos := "law.go:86", after := #[{ on := 0, ground := Ground.data }, { on := 1, ground := Ground.data }, { on := 4, ground := Ground.data }, { on := 6, ground := Ground.data }, { on := 12, ground := Ground.data }, { on := 21, ground := Ground.data }], guard := none }) rfl (fun K hK => ?_) AllReadyH.nil)
  have hOld := hide hHeld
  clear hHeld
  go_simp
  have HBv2 := hide (HBv0.out.alloc HBv0.out.size (.cells #[.string b0, .string b1, .string b2, .string b3, .string b4, .string b5] 9))
  have HSv2 := hide (heap_new v0 (.cells #[.string b0, .string b1, .string b2, .string b3, .string b4, .string b5] 9))
  have HSPv2 := hide (HSPF.out _ ((heap_old v0 (.cells #[.string b0, .string b1, .string b2, .string b3, .string b4, .string b5] 9) _ (heap_lt HAv0.out)).trans HAv0.out) ((heap_old v0 (.cells #[.string b0, .string b1, .string b2, .string b3, .string b4, .string b5] 9) _ (heap_lt HRv0.out)).trans HRv0.out))
  generalize hq2 : World.alloc v0 (.cells #[.string b0, .string b1, .string b2, .string b3, .string b4, .string b5] 9) = v2 at *
  generalize hb2 : v0.heap.size = ob at *
  clear hq2 hb2
  (try go_wp2_with fail)
  refine hK.out _ _ (HSPv2.out) (fun hHeld => ?_)
  clear hK K hOld
  try simp only [Act.put, List.setIfInBounds_toArray, List.set_cons_zero, List.set_cons_succ]
  refine wpAnyH_take (i := 23) (oi := { dst := some 108, op := Op.call { callee := Callee.builtin Builtin.len, args := #[Operand.tmp 107], argTypes := #[51] }, type := 3, pos := "law.go:86", after := #[{ on := 22, ground := Ground.data }], guard := none }) (v := ?_) rfl (by kernel_rfl) (by kernel_rfl) (by kernel_rfl) (fun _ _ _ h => h) (Or.inl ⟨by kernel_rfl, ?_⟩) hHeld ?_
  rotate_left
  · (intro w hSw; (try dsimp only at hSw); (try unfold SP at hSw); go_simp); try with_reducible rfl
  try simp only [Act.put, List.setIfInBounds_toArray, List.set_cons_zero, List.set_cons_succ]
  refine wpAnyH_done (by kernel_rfl) ?_ _
  clear hHeld HSPv0  HBv0
  go_wp2_with fail
  go_loopw [109] (fun i W => ∃ j : Nat, j ≤ 6 ∧ i = .int .i64 j ∧ W.heap[ob]? = some (.cells #[.string b0, .string b1, .string b2, .string b3, .string b4, .string b5] 9 (0, 0)) ∧ Below w.heap.size w W) (fun i _ => 6 - (intOf i).toNat)
  case atStart => exact ⟨0, by omega, rfl, HSv2.out, HBv2.out⟩
  case round =>
    clear HSv2 HBv2
    obtain ⟨j, hj, rfl, h2, h3⟩ := hrel
    have HS := hide h2
    have HB := hide h3
    clear h2 h3
    by_cases hlt : j < 6
    · obtain ⟨p, hpl, hcell⟩ := six_strings HS.out H0.out H1.out H2.out H3.out H4.out H5.out j hlt
      have hjI : (j : Int) < 6 := by omega
      have HPA := hide (fun W => dec_any p (by omega) W)
      have HPR := hide (fun W => rdec_all p (by omega) W)
      unfold DecIs at HPA
      unfold RDecIs at HPR
      obtain ⟨k1, k2, k3⟩ := decX_ek p
      have HSM := hide (fun a5 c5 a6 c6 W h5 h6 => same_any (decX p) k1 k2 k3 a5 c5 a6 c6 W h5 h6)
      have HDE := hide (show (decO p = true ∧ decE p = 0) ∨ (decO p = false ∧ decE p = 4) from by
        by_cases h : decO p = true
        · exact Or.inl ⟨h, (dec_yes h).1⟩
        · exact Or.inr ⟨by simpa using h, (dec_no h).1⟩)
      generalize decX p = X at *
      generalize decO p = od at *
      generalize decE p = oe at *
      generalize bs p = t at *
      clear k1 k2 k3
      unfold rqC at HPA HSM
      unfold rdC at HPR HSM
      go_wp2_with fail
      refine (HPA.out _).mono ?_
      rintro e w10 ⟨a5, c5, rfl, hl5, hb⟩
      have hal := (Below.refl w10.heap.size w10).alloc (Nat.le_refl _) (.cells #[.int .u8 X.k, .int .u8 X.ek, .int .u64 X.key, .int .i64 X.ref, .int .i64 X.amt, .int .i64 X.code, .int .u8 X.ak, .string X.name, .slice a5 X.L.length c5, .int .i64 X.n] 39)
      have hb2 := hb.trans (hal.mono hb.size)
      have X5 := hide (heap_new w10 (.cells #[.int .u8 X.k, .int .u8 X.ek, .int .u64 X.key, .int .i64 X.ref, .int .i64 X.amt, .int .i64 X.code, .int .u8 X.ak, .string X.name, .slice a5 X.L.length c5, .int .i64 X.n] 39))
      have L5 := hide (hl5.below hal)
      have HS5 := hide ((hb2.block _ (heap_lt HS.out)).trans HS.out)
      have HB5 := hide (HB.out.trans (hb2.mono HB.out.size))
      clear hl5 hb hal hb2 HPA HS HB hcell
      go_upto_region 13 with (fail)
      generalize w10.alloc (.cells #[.int .u8 X.k, .int .u8 X.ek, .int .u64 X.key, .int .i64 X.ref, .int .i64 X.amt, .int .i64 X.code, .int .u8 X.ak, .string X.name, .slice a5 X.L.length c5, .int .i64 X.n] 39) = w11 at *
      generalize w10.heap.size = xb at *
      go_wp2_with fail
      refine (HPR.out _).mono ?_
      rintro e w12 ⟨a6, c6, rfl, hl6, hb⟩
      have hal := (Below.refl w12.heap.size w12).alloc (Nat.le_refl _) (.cells #[.int .u8 X.k, .int .i64 X.code, .int .u8 X.ak, .string X.name, .int .u64 X.key, .int .i64 X.ref, .int .i64 X.amt, .int .i64 X.n, .slice a6 X.L.length c6] 42)
      have hb2 := hb.trans (hal.mono hb.size)
      have X6 := hide (heap_new w12 (.cells #[.int .u8 X.k, .int .i64 X.code, .int .u8 X.ak, .string X.name, .int .u64 X.key, .int .i64 X.ref, .int .i64 X.amt, .int .i64 X.n, .slice a6 X.L.length c6] 42))
      have X5b := hide ((hb2.block _ (heap_lt X5.out)).trans X5.out)
      have L6 := hide (hl6.below hal)
      have L5b := hide (L5.out.below hb2)
      have HS6 := hide ((hb2.block _ (heap_lt HS5.out)).trans HS5.out)
      have HB6 := hide (HB5.out.trans (hb2.mono HB5.out.size))
      clear hl6 hb hal hb2 HPR HS5 HB5 X5 L5
      go_upto_region 14 with (fail)
      generalize w12.alloc (.cells #[.int .u8 X.k, .int .i64 X.code, .int .u8 X.ak, .string X.name, .int .u64 X.key, .int .i64 X.ref, .int .i64 X.amt, .int .i64 X.n, .slice a6 X.L.length c6] 42) = w13 at *
      generalize w12.heap.size = yb at *
      have HSM2 := hide (HSM.out a5 c5 a6 c6 w13 L5b.out L6.out)
      clear HSM
      rcases HDE.out with ⟨rfl, rfl⟩ | ⟨rfl, rfl⟩
      all_goals
        go_wp2_with (first | (refine wpList_rowLoadG2 (by kernel_rfl) 39 (.tmp 16) rfl xb rfl 39 #[.int .u8 X.k, .int .u8 X.ek, .int .u64 X.key, .int .i64 X.ref, .int .i64 X.amt, .int .i64 X.code, .int .u8 X.ak, .string X.name, .slice a5 X.L.length c5, .int .i64 X.n] (0, 0) _ X5b.out Try.underlying39 rfl (by kernel_rfl) ?_) | (refine wpList_rowLoadG2 (by kernel_rfl) 42 (.tmp 18) rfl yb rfl 42 #[.int .u8 X.k, .int .i64 X.code, .int .u8 X.ak, .string X.name, .int .u64 X.key, .int .i64 X.ref, .int .i64 X.amt, .int .i64 X.n, .slice a6 X.L.length c6] (0, 0) _ X6.out Try.underlying42 rfl (by kernel_rfl) ?_))
        refine HSM2.out.mono ?_
        rintro e w14 ⟨rfl, hb⟩
        have HS7 := hide ((hb.block _ (heap_lt HS6.out)).trans HS6.out)
        have HB7 := hide (HB6.out.trans (hb.mono HB6.out.size))
        clear hb HS6 HB6 X5b X6 L5b L6 HSM2
        go_wp2_with fail
        go_roundw
        case rel => exact ⟨j + 1, by omega, by go_num, HS7.out, HB7.out⟩
        case measure => simp [intOf]; omega
    · obtain rfl : j = 6 := by omega
      go_wp2_with fail
      refine (wakes28 _).mono ?_
      rintro e w11 ⟨rfl, hb11⟩
      have HB11 := hide (HB.out.trans (hb11.mono HB.out.size))
      clear hb11 HB
      go_wp2_with fail
      go_ret
      exact ⟨rfl, HB11.out⟩
theorem reqRequests_all (y : RqM) (hy : InOk y) (a : Option Addr) (L : List LnM) (cap : Nat) (hcap : L.length ≤ cap) (h63 : L.length ≤ 9223372036854775807) (s : ByteArray) (hs : s.size ≤ 9223372036854775807) (u : Value) (hu : ∃ xs : List Int, xs.length = 2 ∧ u = .agg (xs.map (Value.int .u16)).toArray ∧ ∀ x ∈ xs, (Lit.int .u16 x).wf = true) (w : World) (hin : LnIn w a L) (hok : ∀ x ∈ L, LnOk x) :
    Calls Try.prog 3 #[.agg #[.int .u8 y.k, .int .i64 y.code, .int .u8 y.ak, .string y.name, .int .u64 y.key, .int .i64 y.ref, .int .i64 y.amt, .int .i64 y.n, .slice a L.length cap], .string s, u] w fun e w' => e = .returned (.bool true) ∧ Below w.heap.size w w' := by
  obtain ⟨xs, hl, rfl, hx⟩ := hu
  match xs, hl, hx with
  | [a0, a1], _, hx =>
    have h0 := wf_u16 (hx a0 (by simp))
    have h1 := wf_u16 (hx a1 (by simp))
    exact reqRequests_walk y hy a L cap hcap h63 s hs a0 a1 h0.1 h0.2 h1.1 h1.2 w hin hok

set_option maxRecDepth 100000 in
theorem reqRequests_lifted (os : Os) (started : os.Started) (H : Type) (enc : TypeId × Value → H) :
    ReturnsInHanded {} Try.checked os 3 .any (Rows.reqRequestsSpec.pre6 enc Try.prog Try.f3 Rows.reqRequestsRow.domain false) (Rows.reqRequestsSpec.post enc Try.prog Try.f3 false true false false) := by
  refine returnsInHanded_of_change (C := Try.checked) own started (by kernel_rfl) Try.func3
    (ChangeSpec.witness6 (enc := enc) (C := Try.checked) false ⟨#[], #[.agg #[.int .u8 0, .int .i64 0, .int .u8 0, .string ⟨#[]⟩, .int .u64 0, .int .i64 0, .int .i64 0, .int .i64 0, .slice none 0 0], .string ⟨#[]⟩, .agg #[.int .u16 0, .int .u16 0]], []⟩ 8 (by kernel_rfl) (by kernel_rfl) (by kernel_rfl) (by kernel_rfl)) ?_
  intro W base args ds gs before hval0 hW _ _
  have hval : ∀ (j : Nat) t v, Try.f3.params[j]? = some t → args[j]? = some v → Value.okWide Try.prog W .any base t v := hval0
  have hW' := hW
  obtain ⟨p, q, hA0, hV, rfl, hfz, hnd⟩ := hW
  have hA : DataW.TrodAll enc Try.prog W 0 (fun _ => true) true Try.f3.params.toList args.toList ds p := hA0
  rw [Try.params3] at hA hval
  obtain ⟨v0, vs0, d0, ds0, p0, q0, hargs, rfl, rfl, h0, r0⟩ := trodAll_cons hA
  obtain ⟨v1, vs1, d1, ds1, p1, q1, rfl, rfl, rfl, h1, r1⟩ := trodAll_cons r0
  obtain ⟨v2, vs2, d2, ds2, p2, q2, rfl, rfl, rfl, h2, r2⟩ := trodAll_cons r1
  obtain ⟨rfl, rfl, rfl⟩ := trodAll_nil r2
  obtain rfl : args = #[v0, v1, v2] := by cases args; simp_all
  obtain ⟨rfl, rfl⟩ := trodVars_none hV
  obtain ⟨y, a, L, cap, rfl, hy, hc, h63, hin, hok⟩ := open_req (hval 0 25 v0 rfl rfl) h0
  obtain ⟨s, rfl, rfl, rfl, w1⟩ := ChangeMaps.open_string Try.underlying9 (hval 1 9 v1 rfl rfl) h1
  have z1 : s.size ≤ 9223372036854775807 := w1
  have z2 := open_nums_array 2 Try.underlying27 Try.underlying26 (by kernel_rfl) (by kernel_rfl) (hval 2 27 v2 rfl rfl) h2
  clear hA0 hval0
  refine (reqRequests_all y hy a L cap hc h63 s z1 v2 z2 W hin hok).mono fun e W' ⟨he, hb⟩ => ?_
  subst he
  exact ⟨_, rfl, post_law laidOut (of_decide_eq_true (by kernel_rfl)) rfl rfl Try.underlying4 hW' ⟨rfl, rfl, rfl⟩ hb⟩

/-- THE STATEMENT -/
theorem reqRequests_holds : Rows.ReqRequestsSaid :=
  OpenClaim.holds_of_wide 3 Try.f3 rfl rfl rfl rfl rfl rfl rfl ⟨rfl, rfl, rfl, rfl, rfl⟩ rfl rfl rfl rfl rfl (by kernel_rfl) Try.func3 (by kernel_rfl)
    (of_decide_eq_true (by kernel_rfl)) (by unfold Func.isWrapper; first | (rw [if_pos (by decide +kernel)]; kernel_rfl) | (rw [if_neg (by decide +kernel)]; exact ⟨rfl, rfl⟩))
    (fun os started H enc _ => reqRequests_lifted os started H enc)

end Go.Proofs.Ytkbikflincjhhaa
