/-
  Layer 25: what is left of each sale: the maps.
-/
import Derived.Test.YtbnbfnlfgmlcgaaSale8
import Derived.Test.YtbnbfnlfgmlcgaaMSaleL
import Derived.Test.YtbnbfnlfgmlcgaaKitX
--import Derived.Test.Zdbg
namespace Go.Proofs.Ytbnbfnlfgmlcgaa
set_option linter.unusedSimpArgs false
set_option linter.unusedVariables false
open Go.RowKit Go.WideShapes Go.ChangeShapes Go.ChangeAt Go.Deep

theorem wf_num {a : Int} (h : inR a) : (Lit.int .i64 a).wf = true := by
  obtain ⟨h2, h3⟩ := h
  simp [Lit.wf, IntKind.min, IntKind.max, IntKind.signed, IntKind.bits]
  exact ⟨h2, h3⟩
theorem Keyed_num : Go.Maps.Keyed Try.prog 3 := Go.Maps.int_keyed Try.underlying3
theorem key_num {a : Int} (h : inR a) : keyOf Try.prog 3 (.int .i64 a) = some (.int .i64 a) := Go.Maps.keyOf_int_mk Try.underlying3 (wf_num h)
theorem same_num (j a : Int) : (Lit.int .i64 j).sameKey (.int .i64 a) = true ↔ j = a := by simp [Lit.sameKey]
theorem zero_i64 (w : World) : (zeroValue 2).run Try.prog w = .ok (.int .i64 0) w := by kernel_rfl
theorem zero_bool (w : World) : (zeroValue 4).run Try.prog w = .ok (.bool false) w := by kernel_rfl
theorem MapIs.keepsT {Ts : List TypeId} {w w' : World} {P : Program} {k : TypeId} {b n c : Nat} {f : Lit → Option Value} (h : MapIs w P k b n c f) (hk : KeepsT Ts w w') : MapIs w' P k b n c f := by
  refine h.kept ?_
  obtain ⟨D, ⟨es, clock, h1, h2⟩, h3⟩ := h
  rw [h1]
  exact hk _ _ h1 fun c t fz e => by cases e
def AmF (M : List TxM) (f : Lit → Option Value) : Prop := ∀ k : Int, inR k → f (.int .i64 k) = amM M k
def BaF (M : List TxM) (f : Lit → Option Value) : Prop := ∀ k : Int, inR k → f (.int .i64 k) = some (.int .i64 (bkM M k)) ∨ (f (.int .i64 k) = none ∧ bkM M k = 0)
def VdF (M : List TxM) (f : Lit → Option Value) : Prop := ∀ k : Int, inR k → f (.int .i64 k) = some (.bool (vdM M k)) ∨ (f (.int .i64 k) = none ∧ vdM M k = false)
/-- the three maps -/
structure MapsAt (w : World) (pa pb pv N : Nat) (M : List TxM) : Prop where
  am : ∃ f n c, n ≤ N ∧ MapIs w Try.prog 3 pa n c f ∧ AmF M f
  bk : ∃ f n c, n ≤ N ∧ MapIs w Try.prog 3 pb n c f ∧ BaF M f
  vd : ∃ f n c, n ≤ N ∧ MapIs w Try.prog 3 pv n c f ∧ VdF M f
  ab : pa ≠ pb
  av : pa ≠ pv
  bv : pb ≠ pv
theorem MapsAt.keepsT {Ts : List TypeId} {w w' : World} {pa pb pv N : Nat} {M : List TxM} (h : MapsAt w pa pb pv N M) (hk : KeepsT Ts w w') : MapsAt w' pa pb pv N M := by
  obtain ⟨⟨f1, n1, c1, a1, a2, a3⟩, ⟨f2, n2, c2, b1, b2, b3⟩, ⟨f3, n3, c3, d1, d2, d3⟩, x1, x2, x3⟩ := h
  exact ⟨⟨f1, n1, c1, a1, a2.keepsT hk, a3⟩, ⟨f2, n2, c2, b1, b2.keepsT hk, b3⟩, ⟨f3, n3, c3, d1, d2.keepsT hk, d3⟩, x1, x2, x3⟩
theorem MapsAt.below {w w' : World} {pa pb pv N : Nat} {M : List TxM} (h : MapsAt w pa pb pv N M) (hb : Below w.heap.size w w') : MapsAt w' pa pb pv N M := h.keepsT (Ts := []) (KeepsT.of_below hb)
theorem MapsAt.mono {w : World} {pa pb pv N N' : Nat} {M : List TxM} (h : MapsAt w pa pb pv N M) (hN : N ≤ N') : MapsAt w pa pb pv N' M := by
  obtain ⟨⟨f1, n1, c1, a1, a2, a3⟩, ⟨f2, n2, c2, b1, b2, b3⟩, ⟨f3, n3, c3, d1, d2, d3⟩, x1, x2, x3⟩ := h
  exact ⟨⟨f1, n1, c1, Nat.le_trans a1 hN, a2, a3⟩, ⟨f2, n2, c2, Nat.le_trans b1 hN, b2, b3⟩, ⟨f3, n3, c3, Nat.le_trans d1 hN, d2, d3⟩, x1, x2, x3⟩
theorem MapsAt.same {w : World} {pa pb pv N : Nat} {M M' : List TxM} (h : MapsAt w pa pb pv N M) (he : ∀ k, amM M' k = amM M k ∧ bkM M' k = bkM M k ∧ vdM M' k = vdM M k) : MapsAt w pa pb pv N M' := by
  obtain ⟨⟨f1, n1, c1, a1, a2, a3⟩, ⟨f2, n2, c2, b1, b2, b3⟩, ⟨f3, n3, c3, d1, d2, d3⟩, x1, x2, x3⟩ := h
  exact ⟨⟨f1, n1, c1, a1, a2, fun k hk => by rw [(he k).1]; exact a3 k hk⟩, ⟨f2, n2, c2, b1, b2, fun k hk => by rw [(he k).2.1]; exact b3 k hk⟩, ⟨f3, n3, c3, d1, d2, fun k hk => by rw [(he k).2.2]; exact d3 k hk⟩, x1, x2, x3⟩
theorem MapsAt.lookA {w : World} {pa pb pv N : Nat} {M : List TxM} (h : MapsAt w pa pb pv N M) {k A : Int} (hk : inR k) (hA : amM M k = some (.int .i64 A)) : (Instr.lookup 72 (.map (some pa)) (.int .i64 k) false).run Try.prog w = .ok (.int .i64 A) w := by
  obtain ⟨f, n, c, -, h2, h3⟩ := h.am
  rw [h2.look Keyed_num Try.underlying72 (zero_i64 w) (key_num hk) (by trivial), h3 k hk, hA]
  rfl
theorem MapsAt.lookB {w : World} {pa pb pv N : Nat} {M : List TxM} (h : MapsAt w pa pb pv N M) {k : Int} (hk : inR k) : (Instr.lookup 72 (.map (some pb)) (.int .i64 k) false).run Try.prog w = .ok (.int .i64 (bkM M k)) w := by
  obtain ⟨f, n, c, -, h2, h3⟩ := h.bk
  rw [h2.look Keyed_num Try.underlying72 (zero_i64 w) (key_num hk) (by trivial)]
  rcases h3 k hk with e | ⟨e, e2⟩
  · rw [e]; rfl
  · rw [e, e2]; rfl
theorem MapsAt.lookV {w : World} {pa pb pv N : Nat} {M : List TxM} (h : MapsAt w pa pb pv N M) {k : Int} (hk : inR k) : (Instr.lookup 73 (.map (some pv)) (.int .i64 k) false).run Try.prog w = .ok (.bool (vdM M k)) w := by
  obtain ⟨f, n, c, -, h2, h3⟩ := h.vd
  rw [h2.look Keyed_num Try.underlying73 (zero_bool w) (key_num hk) (by trivial)]
  rcases h3 k hk with e | ⟨e, e2⟩
  · rw [e]; rfl
  · rw [e, e2]; rfl
theorem MapsAt.putA {w w' : World} {pa pb pv N n c' : Nat} {M M' : List TxM} {f : Lit → Option Value} {key : Int} {val : Value} (h : MapsAt w pa pb pv N M) (hF : AmF M f) (hn : n ≤ N) (hm : MapIs w' Try.prog 3 pa (n + 1) c' (fun l => if l.sameKey (.int .i64 key) = true then some val else f l)) (ho : Only pa w w')
    (he : ∀ k, (amM M' k = if k = key then some val else amM M k) ∧ bkM M' k = bkM M k ∧ vdM M' k = vdM M k) : MapsAt w' pa pb pv (N + 1) M' := by
  obtain ⟨-, ⟨f2, n2, c2, b1, b2, b3⟩, ⟨f3, n3, c3, d1, d2, d3⟩, x1, x2, x3⟩ := h
  refine ⟨⟨_, n + 1, c', by omega, hm, fun k hk => ?_⟩, ⟨f2, n2, c2, by omega, b2.only ho (Ne.symm x1), fun k hk => by rw [(he k).2.1]; exact b3 k hk⟩, ⟨f3, n3, c3, by omega, d2.only ho (Ne.symm x2), fun k hk => by rw [(he k).2.2]; exact d3 k hk⟩, x1, x2, x3⟩
  try dsimp only
  rw [(he k).1]
  by_cases e : k = key
  · rw [if_pos ((same_num k key).2 e), if_pos e]
  · rw [if_neg (fun h => e ((same_num k key).1 h)), if_neg e, hF k hk]
theorem MapsAt.putB {w w' : World} {pa pb pv N n c' : Nat} {M M' : List TxM} {f : Lit → Option Value} {key x : Int} (h : MapsAt w pa pb pv N M) (hF : BaF M f) (hn : n ≤ N) (hm : MapIs w' Try.prog 3 pb (n + 1) c' (fun l => if l.sameKey (.int .i64 key) = true then some (.int .i64 x) else f l)) (ho : Only pb w w')
    (he : ∀ k, amM M' k = amM M k ∧ (bkM M' k = if k = key then x else bkM M k) ∧ vdM M' k = vdM M k) : MapsAt w' pa pb pv (N + 1) M' := by
  obtain ⟨⟨f1, n1, c1, a1, a2, a3⟩, -, ⟨f3, n3, c3, d1, d2, d3⟩, x1, x2, x3⟩ := h
  refine ⟨⟨f1, n1, c1, by omega, a2.only ho x1, fun k hk => by rw [(he k).1]; exact a3 k hk⟩, ⟨_, n + 1, c', by omega, hm, fun k hk => ?_⟩, ⟨f3, n3, c3, by omega, d2.only ho (Ne.symm x3), fun k hk => by rw [(he k).2.2]; exact d3 k hk⟩, x1, x2, x3⟩
  try dsimp only
  rw [(he k).2.1]
  by_cases e : k = key
  · rw [if_pos ((same_num k key).2 e), if_pos e]; exact .inl rfl
  · rw [if_neg (fun h => e ((same_num k key).1 h)), if_neg e]; exact hF k hk
theorem MapsAt.putV {w w' : World} {pa pb pv N n c' : Nat} {M M' : List TxM} {f : Lit → Option Value} {key : Int} {x : Bool} (h : MapsAt w pa pb pv N M) (hF : VdF M f) (hn : n ≤ N) (hm : MapIs w' Try.prog 3 pv (n + 1) c' (fun l => if l.sameKey (.int .i64 key) = true then some (.bool x) else f l)) (ho : Only pv w w')
    (he : ∀ k, amM M' k = amM M k ∧ bkM M' k = bkM M k ∧ (vdM M' k = if k = key then x else vdM M k)) : MapsAt w' pa pb pv (N + 1) M' := by
  obtain ⟨⟨f1, n1, c1, a1, a2, a3⟩, ⟨f2, n2, c2, b1, b2, b3⟩, -, x1, x2, x3⟩ := h
  refine ⟨⟨f1, n1, c1, by omega, a2.only ho x2, fun k hk => by rw [(he k).1]; exact a3 k hk⟩, ⟨f2, n2, c2, by omega, b2.only ho x3, fun k hk => by rw [(he k).2.1]; exact b3 k hk⟩, ⟨_, n + 1, c', by omega, hm, fun k hk => ?_⟩, x1, x2, x3⟩
  try dsimp only
  rw [(he k).2.2]
  by_cases e : k = key
  · rw [if_pos ((same_num k key).2 e), if_pos e]; exact .inl rfl
  · rw [if_neg (fun h => e ((same_num k key).1 h)), if_neg e]; exact hF k hk
/-- a register, while a block that is no row turns -/
theorem RegAt.only {w w' : World} {B p r : Nat} {keep next : Int} {v : Value} {T : List TxA} (h : RegAt w B p keep next v T) (ho : Only r w w') (hr : ∀ d t fz, w.heap[r]? ≠ some (.cells d t fz)) : RegAt w' B p keep next v T := by
  have hk : ∀ (k : Nat) (c : Array Value) (t : TypeId) (fz : Nat × Nat), w.heap[k]? = some (.cells c t fz) → w'.heap[k]? = some (.cells c t fz) := fun k c t fz hc =>
    (ho.block k (heap_lt hc) (fun e => hr c t fz (by rw [← e]; exact hc))).trans hc
  refine ⟨hk _ _ _ _ h.head, h.row.keptB fun k hv => ?_, fun x hx i hi => ?_, h.low, h.kp, h.nx, h.few, h.ok, h.nums⟩
  · obtain ⟨c, fz, hc⟩ := h.row.kind k hv
    rw [hk _ _ _ _ hc, hc]
  · obtain ⟨b, off, c, fz, h1, h2, h3⟩ := h.lines x hx i hi
    exact ⟨b, off, c, fz, h1, hk _ _ _ _ h2, h3⟩
theorem add_saysO {qs : List Nat} {B p : Nat} {keep next er n nx : Int} {T : List TxA} {M : List TxM} {t : TxM} {w w' : World} {e : Ending} (h : AddIsO qs B p keep next T t w e w') (hE : addE (T.map (·.t)) next t = er) (hM : addM (T.map (·.t)) keep next t = M) (hn : (if er = 0 then next else 0) = n) (hx : (if er = 0 then next + 1 else next) = nx) :
    ∃ v' T', e = .returned (.tuple #[.int .i64 n, .int .i64 er]) ∧ RegAt w' B p keep nx v' T' ∧ T'.map (·.t) = M ∧ Below B w w' ∧ KO qs w w' := by
  obtain ⟨v', T', h1, h2, h3, h4, h5⟩ := h
  unfold addN at h2
  rw [hE] at h1 h2
  rw [hn] at h1
  rw [hx] at h2
  exact ⟨v', T', h1, h2, h3.trans hM, h4, h5⟩
theorem saleOf_nil (k : Int) : saleOf [] k = none := by
  unfold saleOf
  rw [if_neg (fun h => by have h1 := h.1; have h2 := h.2.1; simp at h2; omega)]
theorem maps_made (w : World) : MapsAt (((w.alloc (.map #[] 0)).alloc (.map #[] 0)).alloc (.map #[] 0)) w.heap.size (w.heap.size + 1) (w.heap.size + 1 + 1) 0 [] ∧ Below w.heap.size w (((w.alloc (.map #[] 0)).alloc (.map #[] 0)).alloc (.map #[] 0)) := by
  have s1 : (w.alloc (.map #[] 0)).heap.size = w.heap.size + 1 := by simp
  have s2 : ((w.alloc (.map #[] 0)).alloc (.map #[] 0)).heap.size = w.heap.size + 1 + 1 := by simp
  have b1 := (Below.refl w.heap.size w).alloc (Nat.le_refl _) (.map #[] 0)
  have b2 := (Below.refl (w.alloc (.map #[] 0)).heap.size (w.alloc (.map #[] 0))).alloc (Nat.le_refl _) (.map #[] 0)
  have b3 := (Below.refl ((w.alloc (.map #[] 0)).alloc (.map #[] 0)).heap.size ((w.alloc (.map #[] 0)).alloc (.map #[] 0))).alloc (Nat.le_refl _) (.map #[] 0)
  have m1 := MapIs.made w Try.prog 3
  have m2 := MapIs.made (w.alloc (.map #[] 0)) Try.prog 3
  have m3 := MapIs.made ((w.alloc (.map #[] 0)).alloc (.map #[] 0)) Try.prog 3
  rw [s1] at m2
  rw [s2] at m3
  have n1 := (m1.below b2).below b3
  have n2 := m2.below b3
  refine ⟨⟨⟨_, 0, 0, Nat.le_refl _, n1, fun k _ => ?_⟩, ⟨_, 0, 0, Nat.le_refl _, n2, fun k _ => .inr ⟨rfl, ?_⟩⟩, ⟨_, 0, 0, Nat.le_refl _, m3, fun k _ => .inr ⟨rfl, ?_⟩⟩, by omega, by omega, by omega⟩, (b1.trans (b2.mono (by omega))).trans (b3.mono (by omega))⟩
  · unfold amM; rw [saleOf_nil]; rfl
  · unfold bkM; rw [saleOf_nil]
  · unfold vdM; rw [saleOf_nil]
end Go.Proofs.Ytbnbfnlfgmlcgaa
