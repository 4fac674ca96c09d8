/-
  Lemmas and contracts of this project's own, put together: Kit, KitB.
-/
import Derived.Test.YtjfmkfhjbdiojaaGreatRows
import Derived.WalkKit
import Derived.Handy
import Derived.ProofKit
import Derived.OpenShut
import Derived.Carry
import Derived.Lib.Hide
import Derived.Deep.RegionWith
import Derived.Deep.QuietTactic
import Derived.BigQuiet
import Derived.Lib.IndexBytes
import Derived.Deep.Draws
import Derived.Laws.BitsLemmas
import Derived.Lib.EndianBits
import Derived.Laws.BytesArg
namespace Go.Proofs.YtjfmkfhjbdiojaaGreat
set_option linter.unusedSimpArgs false
set_option linter.unusedVariables false
open Go.RowKit Go.WideShapes Go.ChangeShapes Go.ChangeAt

theorem own : ownKnob Tryz.prog.godebug = none := by kernel_rfl
theorem laidOut : laidOutB Tryz.prog = true := by kernel_rfl


theorem wf_u64 {a : Int} (h : (Lit.int .u64 a).wf = true) : 0 ≤ a ∧ a ≤ 18446744073709551615 := by simpa [Lit.wf, IntKind.min, IntKind.max, IntKind.signed, IntKind.bits] using h
theorem wf_i64 {a : Int} (h : (Lit.int .i64 a).wf = true) : -9223372036854775808 ≤ a ∧ a ≤ 9223372036854775807 := by simpa [Lit.wf, IntKind.min, IntKind.max, IntKind.signed, IntKind.bits] using h
theorem wf_u8 {a : Int} (h : (Lit.int .u8 a).wf = true) : 0 ≤ a ∧ a ≤ 255 := by simpa [Lit.wf, IntKind.min, IntKind.max, IntKind.signed, IntKind.bits] using h
theorem wf_u16 {a : Int} (h : (Lit.int .u16 a).wf = true) : 0 ≤ a ∧ a ≤ 65535 := by simpa [Lit.wf, IntKind.min, IntKind.max, IntKind.signed, IntKind.bits] using h
theorem wf_u32 {a : Int} (h : (Lit.int .u32 a).wf = true) : 0 ≤ a ∧ a ≤ 4294967295 := by simpa [Lit.wf, IntKind.min, IntKind.max, IntKind.signed, IntKind.bits] using h

theorem size_list (s : ByteArray) : s.data.toList.length = s.size := Array.length_toList
theorem getElem_list (s : ByteArray) (j : Nat) (h : j < s.size) : s.data.toList[j]'(by rw [size_list]; exact h) = s[j] := rfl
theorem below_trans {a b c : World} (h : Below a.heap.size a b) (k : Below b.heap.size b c) : Below a.heap.size a c := h.trans (k.mono h.size)
theorem below_drew {a b : World} (h : Below a.drew.heap.size a.drew b) : Below a.heap.size a b := ((Below.refl a.heap.size a).drew).trans h
theorem ret_bool {a : Bool} (h : a = true) : Ending.returned (.bool a) = .returned (.bool true) := by rw [h]
theorem ret_int {k : IntKind} {a b : Int} (h : a = b) : Ending.returned (.int k a) = .returned (.int k b) := by rw [h]
theorem hide {p : Prop} (h : p) : Hid p := h

section
variable {H : Type} {enc : TypeId × Value → H} {P : Program}

/-- All arguments read behind the call as they did ahead of it, if below the old heap's size nothing has turned. -/
theorem trodAll_stays (hl : laidOutB P = true) {W W' : World} (hb : Below W.heap.size W W') :
    ∀ (ts : List TypeId) (vs : List Value) (ds : List (DataW H)) (p : List MemPlace), (∀ t ∈ ts, P.readableRec t = true ∧ t < P.types.size) →
      DataW.TrodAll enc P W 0 (fun _ => true) true ts vs ds p → (∀ x ∈ p, x.block < W.heap.size) → ∀ sp : Nat → Bool, (∀ x ∈ p, sp x.block = true) →
      DataW.TrodAll enc P W' 0 sp true ts vs ds p := by
  intro ts
  induction ts with
  | nil =>
    intro vs ds p _ h _ sp _
    cases vs with
    | nil =>
      obtain ⟨_, rfl, rfl⟩ := trodAll_nil h
      exact trodAll_mk0
    | cons v vs => exact absurd h (by cases ds <;> simp [DataW.TrodAll])
  | cons t ts ih =>
    intro vs ds p ht h hp sp hsp
    obtain ⟨v, vs', d, ds', p1, p2, rfl, rfl, rfl, hd, hr⟩ := trodAll_cons h
    have h1 := ht t (by simp)
    exact trodAll_cons_mk (WideElems.Trod_stays hl h1.1 h1.2 hd (fun x hx => hb.same (hp x (by simp [hx]))) (fun x hx => hsp x (by simp [hx])))
      (ih vs' ds' p2 (fun t' h' => ht t' (by simp [h'])) hr (fun x hx => hp x (by simp [hx])) sp (fun x hx => hsp x (by simp [hx])))

/-- A law's post: it returned true, and below the old heap's size nothing has turned. -/
theorem post_law {f : Func} {s : ChangeSpec} {apart : Bool} {tb : TypeId} {W W' : World} {args : Array Value} {ds gs : List (DataW H)} {before : List MemPlace}
    (hl : laidOutB P = true) (hr : ∀ t ∈ f.params.toList, P.readableRec t = true ∧ t < P.types.size) (hvars : s.vars = [])
    (hres : f.resultTypes = #[tb]) (htb : P.underlying tb = some .bool)
    (hW : DataW.Whole enc P f.params.toList s.vars apart W args.toList ds gs before)
    (hs : (s.fn H (ds ++ gs)).results = [.lit (.bool true)] ∧ (s.fn H (ds ++ gs)).args = ds ∧ (s.fn H (ds ++ gs)).vars = [])
    (hb : Below W.heap.size W W') :
    s.post enc P f apart true false false W args (.bool true) W' := by
  have hlt : ∀ p ∈ before, p.block < W.heap.size := fun p hp => hW.lt p hp
  have hW0 := hW
  obtain ⟨pa, pv, hA, hV, hbe, hz, hn⟩ := hW0
  rw [hvars] at hV
  obtain ⟨hg, hpv⟩ := trodVars_none hV
  subst hpv
  have hbe' : before = pa := by rw [hbe]; simp
  subst hbe'
  have hold : ∀ p ∈ before, (fun b => decide (b < W.heap.size)) p.block = true := fun p hp => by simpa using hlt p hp
  have hres' : ∀ (b : Nat) (sp : Nat → Bool) (hd : Bool), DataW.TrodAll enc P W' b sp hd f.resultTypes.toList ((Value.bool true).resultList f.resultTypes.size) (s.fn H (ds ++ gs)).results [] := by
    intro b sp hd
    rw [hres, hs.1]
    exact trodAll_cons_mk (shut_bool htb _) trodAll_mk0
  have hargs : ∀ sp : Nat → Bool, (∀ p ∈ before, sp p.block = true) → DataW.TrodAll enc P W' 0 sp true f.params.toList args.toList (s.fn H (ds ++ gs)).args before := by
    intro sp hsp
    rw [hs.2.1]
    exact trodAll_stays hl hb _ _ _ _ hr hA hlt sp hsp
  have hvs : ∀ sp : Nat → Bool, (∀ p ∈ before, sp p.block = true) → DataW.TrodVars enc P W' sp s.vars (s.fn H (ds ++ gs)).vars [] := by
    intro sp _
    rw [hs.2.2, hvars]
    rfl
  refine ⟨ds, gs, before, [], before, [], hW, hres' _ _ _, hargs _ hold, hvs _ hold, World.keptBut_mono (fun p hp => ⟨hp, ?_⟩) (hb.frame (· ∈ before)), fun _ => ?_⟩
  · exact Or.inr (Or.inl hp)
  · refine ⟨ok_one hres rfl (okWide_bool_mk htb _), _, _, ([] ++ before) ++ [], ⟨[] ++ before, [], trodAll_append (hargs _ (fun _ _ => rfl)) (hres' _ _ _), hvs _ (fun _ _ => rfl), rfl, ?_, ?_⟩, ?_⟩
    · intro b off hp
      have hin : MemPlace.cell b off ∈ before := by simpa using hp
      rw [hb.frozen (hlt _ hin)]
      exact hz b off hin
    · intro ha
      have := hn ha
      simpa using this
    · intro p hp _
      simpa using hp
end
end Go.Proofs.YtjfmkfhjbdiojaaGreat

namespace Go.Proofs.YtjfmkfhjbdiojaaGreat
set_option linter.unusedSimpArgs false
set_option linter.unusedVariables false
open Go.RowKit Go.WideShapes Go.ChangeShapes Go.ChangeAt

section
variable {H : Type} {enc : TypeId × Value → H} {P : Program} {w : World} {base : Nat} {sp : Nat → Bool} {held : Bool} {r : Reach} {b0 : Nat}

/-- the cells of a list of readings: each is one number -/
theorem nums_of_cells {k : IntKind} {t0 : TypeId} (h0 : P.underlying t0 = some (.int k)) {m : Nat} :
    ∀ (n : Nat) (l : List Value), l.length = n → (∀ i, i < n → ∃ y, DataW.trod enc P w base sp held m t0 ((l.drop i).take 1) = some y) →
      ∃ xs : List Int, xs.length = n ∧ l = xs.map (Value.int k) ∧ ∀ x ∈ xs, (Lit.int k x).wf = true
  | 0, l, hl, _ => ⟨[], rfl, by simpa using hl, by simp⟩
  | n + 1, [], hl, _ => by simp at hl
  | n + 1, v :: l, hl, h => by
    obtain ⟨y, hy⟩ := h 0 (by omega)
    simp at hy
    obtain ⟨a, ea, _, ha⟩ := DataW.trod_int h0 hy
    simp at ea
    subst ea
    obtain ⟨xs, hx, rfl, hw⟩ := nums_of_cells h0 n l (by simpa using hl) (fun i hi => by simpa using h (i + 1) (by omega))
    exact ⟨a :: xs, by simp [hx], rfl, by simpa using ⟨ha, hw⟩⟩

/-- a struct whose fields are all numbers of one type, by value -/
theorem open_nums_struct {k : IntKind} {t t0 : TypeId} {fs : Array Field} {v : Value} {d : DataW H} {ps : List MemPlace} (n : Nat) (hs : P.underlying t = some (.struct fs)) (h0 : P.underlying t0 = some (.int k))
    (hC : P.cellsOf t = n) (h1 : P.cellsOf t0 = 1) (hf : ∀ i, i < n → (fs[i]?).map (fun f => (f.offset, f.type)) = some (i, t0)) (hv : Value.okWide P w r b0 t v) (h : DataW.Trod enc P w base sp held t v d ps) :
    ∃ xs : List Int, xs.length = n ∧ v = .agg (xs.map (Value.int k)).toArray ∧ ∀ x ∈ xs, (Lit.int k x).wf = true := by
  obtain ⟨cs, rfl, hsz⟩ := okWide_struct hs hv
  obtain ⟨l⟩ := cs
  obtain ⟨fuel, hh⟩ := h
  obtain ⟨ys, m, _, _, _, hlen, hg⟩ := DataW.trod_struct hs hh
  have hl : l.length = n := by simpa [hC] using hsz
  obtain ⟨xs, hx, rfl, hw⟩ := nums_of_cells (m := m) (enc := enc) (w := w) (base := base) (sp := sp) (held := held) h0 n l hl (fun i hi => by
    have := hf i hi
    cases hfi : fs[i]? with
    | none => simp [hfi] at this
    | some f =>
      simp [hfi] at this
      have hg' := hg i f hfi
      rw [this.1, this.2, h1] at hg'
      have hi2 : i < ys.length := by rw [hlen]; exact (Array.getElem?_eq_some_iff.1 hfi).1
      exact ⟨ys[i], by simpa [Value.cells, List.getElem?_eq_getElem hi2] using hg'⟩)
  exact ⟨xs, hx, rfl, hw⟩

/-- an array of numbers, by value -/
theorem open_nums_array {k : IntKind} {t t0 : TypeId} {v : Value} {d : DataW H} {ps : List MemPlace} (n : Nat) (hs : P.underlying t = some (.array n t0)) (h0 : P.underlying t0 = some (.int k))
    (hC : P.cellsOf t = n) (h1 : P.cellsOf t0 = 1) (hv : Value.okWide P w r b0 t v) (h : DataW.Trod enc P w base sp held t v d ps) :
    ∃ xs : List Int, xs.length = n ∧ v = .agg (xs.map (Value.int k)).toArray ∧ ∀ x ∈ xs, (Lit.int k x).wf = true := by
  obtain ⟨fuel, hh⟩ := h
  obtain ⟨ys, m, _, _, hlen, hxl, hi⟩ := DataW.trod_array hs hh
  have hagg : ∃ cs, v = .agg cs := by
    simp only [Value.okWide, hs] at hv
    obtain ⟨cs, h1, _⟩ := hv
    exact ⟨cs, h1⟩
  obtain ⟨⟨l⟩, rfl⟩ := hagg
  rw [hC] at hlen
  simp only [Value.cells] at hlen hi
  rw [h1] at hi
  obtain ⟨xs, hx, rfl, hw⟩ := nums_of_cells (m := m) (enc := enc) (w := w) (base := base) (sp := sp) (held := held) h0 n l (by simpa using hlen) (fun i hin => by
    have := hi i hin
    have hi2 : i < ys.length := by omega
    exact ⟨ys[i], by simpa [List.getElem?_eq_getElem hi2] using this⟩)
  exact ⟨xs, hx, rfl, hw⟩
end

theorem bcell {W w1 : World} (hb : Below W.heap.size W w1) : (∀ b o, b < W.heap.size → w1.cell? ⟨b, o, none⟩ = W.cell? ⟨b, o, none⟩) ∧ (∀ b o, b < W.heap.size → w1.frozen? ⟨b, o, none⟩ = W.frozen? ⟨b, o, none⟩) :=
  ⟨fun b o h => hb.cell (p := ⟨b, o, none⟩) h, fun b o h => hb.frozen (p := ⟨b, o, none⟩) h⟩
theorem cell_keep {w w' : World} {n k : Nat} {v : Value} (h : w.cell? ⟨n, k, none⟩ = some v) (hn : n < w.heap.size) (hb : Below w.heap.size w w') : w'.cell? ⟨n, k, none⟩ = some v := by
  rw [(bcell hb).1 _ _ hn, h]
theorem free_keep {w w' : World} {n k : Nat} {v : Bool} (h : w.frozen? ⟨n, k, none⟩ = v) (hn : n < w.heap.size) (hb : Below w.heap.size w w') : w'.frozen? ⟨n, k, none⟩ = v := by
  rw [(bcell hb).2 _ _ hn, h]
theorem below_box {w w1 : World} {o : Obj} (hb : Below (w.alloc o).heap.size (w.alloc o) w1) : Below w.heap.size w w1 := ((Below.refl _ _).alloc (Nat.le_refl _) _).trans (hb.mono (by simp))
theorem ret_bb {a b : Bool} (h : a = b) : Ending.returned (.bool a) = .returned (.bool b) := by rw [h]
end Go.Proofs.YtjfmkfhjbdiojaaGreat
