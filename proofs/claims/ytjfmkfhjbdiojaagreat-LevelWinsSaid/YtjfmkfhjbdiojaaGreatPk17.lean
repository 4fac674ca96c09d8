/-
  Lemmas and contracts of this project's own, put together: MvC.
-/
import Derived.Test.YtjfmkfhjbdiojaaGreatPk16
namespace Go.Proofs.YtjfmkfhjbdiojaaGreat
set_option linter.unusedSimpArgs false
set_option linter.unusedVariables false
open Go.RowKit W
/-- how many pages more there is room for -/
def capX (pg : Nat) (X : MvS) : Int := X.lf + ((pg : Int) - 1) * (freeN X.L : Int)
theorem getD_lt {M : Spots} {l : Nat} {x : Int × Int} (h : M.getD l none = some x) : l < M.length := by
  rcases Nat.lt_or_ge l M.length with e | e
  · exact e
  · simp [List.getD, List.getElem?_eq_none e] at h
section
variable {nb pg sz : Nat} {N : Int} {X X' X0 : MvS} {k j : Nat} {t : TgM} {td : List UInt8}
theorem HOk.cap_room (h : HOk nb pg sz N X) (hc : 1 ≤ capX pg X) : 1 ≤ X.lf ∨ 1 ≤ freeN X.L := by
  have h1 := h.room
  unfold capX at hc
  rcases (show 1 ≤ X.lf ∨ X.lf = 0 by omega) with e | e
  · exact .inl e
  · rcases Nat.eq_zero_or_pos (freeN X.L) with f | f
    · rw [f, e] at hc; simp at hc
    · exact .inr f
theorem PutX.cap (h : PutX nb pg sz N X X' k j t td) (hok : HOk nb pg sz N X) : capX pg X' + 1 = capX pg X := by
  unfold capX
  rcases h.how with ⟨h1, h2, h3, h4⟩ | ⟨h1, h2, h3, h4, h5⟩
  · rw [h3, h4]; omega
  · have hk : k < X.L.length := by rw [hok.llen]; exact h.kj.1
    have hf := freeN_set X.L k (2, (X.L.getD k (0, 0)).2 + 1) hk
    rw [if_pos h2, if_neg (show ¬ (2 : Int) = 1 by decide)] at hf
    rw [h4, h5, h1, ← show freeN (X.L.set k (2, (X.L.getD k (0, 0)).2 + 1)) + 1 = freeN X.L by omega]
    push_cast
    rw [Int.mul_add]
    omega
theorem PutX.used_kept (h : PutX nb pg sz N X X' k j t td) (hok : HOk nb pg sz N X) (i : Nat) (hi : (X.L.getD i (0, 0)).1 = 2) : (X'.L.getD i (0, 0)).1 = 2 := by
  rcases h.how with ⟨h1, h2, h3, h4⟩ | ⟨h1, h2, h3, h4, h5⟩
  · rw [h3]; exact hi
  · rw [h4]
    have hk : k < X.L.length := by rw [hok.llen]; exact h.kj.1
    by_cases e : i = k
    · subst e; rw [pr_self _ i hk]
    · rw [pr_other _ k i e]; exact hi
theorem PutX.lf2 (h : PutX nb pg sz N X X' k j t td) (hok : HOk nb pg sz N X) (hpg : 2 ≤ pg) : X'.lf ≤ (pg : Int) - 2 := by
  have := hok.room
  rcases h.how with ⟨h1, h2, h3, h4⟩ | ⟨h1, h2, h3, h4, h5⟩ <;> omega
/-- a page that is put gets its place -/
theorem PutX.mapped (h : PutX nb pg sz N X X' k j t td) (l : Nat) (hl : l < X.M.length) : HOk nb pg sz (N + 3) (mapX X' l k j t td) :=
  hok_map h.ok l k j t td (by rw [h.same.1]; exact hl) h.kj.1 h.kj.2.2 h.used (by rw [h.next]; omega) h.lies
/-- the pages of block c below i are elsewhere -/
structure Clr (pg c i : Nat) (X0 X : MvS) : Prop where
  D : X.D = X0.D
  len : X.M.length = X0.M.length
  away : ∀ l x, X0.M.getD l none = some x → ¬ (x.1 = (c : Int) ∧ x.2 < (i : Int)) → X.M.getD l none = some x
  kept : ∀ l, (X.M.getD l none).isSome = (X0.M.getD l none).isSome
  gone : ∀ l x, X.M.getD l none = some x → x.1 = (c : Int) → (i : Int) ≤ x.2
  opn : X.op ≠ (c : Int)
  idle : (∀ l x, X0.M.getD l none = some x → x.1 ≠ (c : Int)) → X = X0
  cap : capX pg X + (liveN X0.M (c : Int) : Int) = capX pg X0 + (liveN X.M (c : Int) : Int)
  used : ∀ k, (X0.L.getD k (0, 0)).1 = 2 → (X.L.getD k (0, 0)).1 = 2
  lf2 : X0.lf ≤ (pg : Int) - 2 → X.lf ≤ (pg : Int) - 2
theorem clr_zero (c : Nat) (hM : ∀ l x, X0.M.getD l none = some x → 0 ≤ x.2) (hop : X0.op ≠ (c : Int)) : Clr pg c 0 X0 X0 :=
  ⟨rfl, rfl, fun _ _ h _ => h, fun _ => rfl, fun l x h _ => by have := hM l x h; omega, hop, fun _ => rfl, rfl, fun _ h => h, fun h => h⟩
theorem clr_skip {c i : Nat} (h : Clr pg c i X0 X) (ho : ∀ l, X.M.getD l none ≠ some ((c : Int), (i : Int))) : Clr pg c (i + 1) X0 X :=
  { h with
    away := fun l x hx hn => h.away l x hx (fun hh => hn ⟨hh.1, by omega⟩)
    gone := fun l x hx hc => by
      have h1 := h.gone l x hx hc
      have h2 : x.2 ≠ (i : Int) := fun e => ho l (by rw [hx, ← hc, ← e])
      omega }
theorem clr_move {c i l : Nat} (h : Clr pg c i X0 X) (hok : HOk nb pg sz N X) (hpg : 2 ≤ pg) (hi : Inj X.M) (hl : X.M.getD l none = some ((c : Int), (i : Int))) (hp : PutX nb pg sz N X X' k j (X.D l).1 (X.D l).2) : Clr pg c (i + 1) X0 (mapX X' l k j (X.D l).1 (X.D l).2) := by
  have hlt : l < X.M.length := getD_lt hl
  have hkc : k ≠ c := by
    rintro rfl
    rcases hp.how with ⟨h1, h2, h3, h4⟩ | ⟨h1, h2, h3, h4, h5⟩
    · exact h.opn h2
    · obtain ⟨k', j', e, -, -, c4, -, -⟩ := hok.has l _ hl
      simp only [Prod.mk.injEq, Int.natCast_inj] at e
      obtain ⟨rfl, rfl⟩ := e
      omega
  have hM : (mapX X' l k j (X.D l).1 (X.D l).2).M = X.M.set l (some ((k : Int), (j : Int))) := by show X'.M.set l _ = _; rw [hp.same.1]
  have hself : (X.M.set l (some ((k : Int), (j : Int)))).getD l none = some ((k : Int), (j : Int)) := by simp [List.getD, hlt]
  have hoth : ∀ m, m ≠ l → (X.M.set l (some ((k : Int), (j : Int)))).getD m none = X.M.getD m none := fun m hm => by simp [List.getD, List.getElem?_set, Ne.symm hm]
  refine ⟨?_, by rw [hM, List.length_set]; exact h.len, ?_, ?_, ?_, by show X'.op ≠ _; rw [hp.op]; omega, ?_, ?_, fun m hm => hp.used_kept hok m (h.used m hm), fun _ => hp.lf2 hok hpg⟩
  · show (fun m => if m = l then ((X.D l).1, (X.D l).2) else X'.D m) = X0.D
    rw [← h.D]
    funext m
    by_cases e : m = l
    · subst e; rw [if_pos rfl]
    · rw [if_neg e, hp.same.2]
  · intro m x hx hn
    rw [hM]
    by_cases e : m = l
    · subst e
      rcases Decidable.em (x.1 = (c : Int) ∧ x.2 < (i : Int)) with hh | hh
      · exact absurd ⟨hh.1, by omega⟩ hn
      · have h1 := h.away m x hx hh
        rw [hl] at h1
        obtain rfl := Option.some.inj h1
        exact absurd ⟨rfl, by show (i : Int) < ((i + 1 : Nat) : Int); omega⟩ hn
    · rw [hoth m e]
      exact h.away m x hx (fun hh => hn ⟨hh.1, by omega⟩)
  · intro m
    rw [hM]
    by_cases e : m = l
    · subst e; rw [hself, ← h.kept m, hl]; rfl
    · rw [hoth m e]; exact h.kept m
  · intro m x hx hc
    rw [hM] at hx
    by_cases e : m = l
    · subst e
      rw [hself] at hx
      obtain rfl := Option.some.inj hx
      exact absurd hc (by show (k : Int) ≠ (c : Int); omega)
    · rw [hoth m e] at hx
      have h1 := h.gone m x hx hc
      have h2 : x.2 ≠ (i : Int) := fun e2 => e (hi m l ((c : Int), (i : Int)) (getD_some (by rw [hx, ← hc, ← e2])) (getD_some hl))
      omega
  · intro hh
    have := h.idle hh
    rw [this] at hl
    exact absurd rfl (hh l _ hl)
  · rw [hM]
    have h1 := hp.cap hok
    have h2 := liveN_set hlt (some ((k : Int), (j : Int))) (c : Int)
    rw [hl] at h2
    have e1 : (Option.any (fun x : Int × Int => x.1 == (c : Int)) (some ((c : Int), (i : Int)))) = true := by simp
    have e2 : ¬ (Option.any (fun x : Int × Int => x.1 == (c : Int)) (some ((k : Int), (j : Int)))) = true := by simp; omega
    rw [if_pos e1, if_neg e2] at h2
    have h3 := h.cap
    have h4 : capX pg (mapX X' l k j (X.D l).1 (X.D l).2) = capX pg X' := rfl
    omega
theorem clr_all {c : Nat} (h : Clr pg c pg X0 X) (hok : HOk nb pg sz N X) : liveN X.M (c : Int) = 0 ∧ ∀ l x, X.M.getD l none = some x → x.1 ≠ (c : Int) := by
  have h1 : ∀ l x, X.M.getD l none = some x → x.1 ≠ (c : Int) := fun l x hx hc => by
    have h1 := h.gone l x hx hc
    obtain ⟨k, j, rfl, -, hj, -⟩ := hok.has l x hx
    have : ((j : Nat) : Int) < pg := by omega
    exact absurd h1 (by show ¬ (pg : Int) ≤ (j : Int); omega)
  refine ⟨?_, h1⟩
  unfold liveN
  rw [List.countP_eq_zero]
  intro o ho
  obtain ⟨l, hl, rfl⟩ := List.mem_iff_getElem.mp ho
  cases hx : X.M[l] with
  | none => simp
  | some x =>
    have := h1 l x (by simp [List.getD, hl, hx])
    simp [this]
end
end Go.Proofs.YtjfmkfhjbdiojaaGreat
