/-
  Layer 6, the program's calls: Right, Blank, Factory by contracts.
-/
import Derived.Test.YtoigejgpagoghaaKitG
import Derived.Test.YtoigejgpagoghaaShelf
--import Derived.Test.Zdbg
namespace Go.Proofs.Ytoigejgpagoghaa
set_option linter.unusedSimpArgs false
set_option linter.unusedVariables false
open Go.RowKit

def tagV (k l s p n : Int) : Value := .agg #[.int .u8 k, .int .i64 l, .int .u64 s, .int .i64 p, .int .i64 n]
/-- may a tag be? -/
def TagOk (k l p n : Int) : Prop := 1 ≤ k ∧ k ≤ 3 ∧ 0 ≤ l ∧ l ≤ 65535 ∧ 1 ≤ n ∧ n ≤ 255 ∧ 0 ≤ p ∧ p < n
theorem tright_yes (k l s p n : Int) (h : TagOk k l p n) (w : World) :
    Calls Try.prog 12 #[.agg #[.int .u8 k, .int .i64 l, .int .u64 s, .int .i64 p, .int .i64 n]] w fun e w' => e = .returned (.bool true) ∧ Below w.heap.size w w' := by
  obtain ⟨h1, h2, h3, h4, h5, h6, h7, h8⟩ := h
  go_enter Try.func12, Try.ntmps12
  go_wp2
  go_ret
  exact ⟨rfl, (Below.refl _ _).alloc (Nat.le_refl _) _⟩
theorem tright_no (k l s p n : Int) (h : ¬ TagOk k l p n) (w : World) :
    Calls Try.prog 12 #[.agg #[.int .u8 k, .int .i64 l, .int .u64 s, .int .i64 p, .int .i64 n]] w fun e w' => e = .returned (.bool false) ∧ Below w.heap.size w w' := by
  have hs : ¬ 1 ≤ k ∨ (1 ≤ k ∧ ¬ k ≤ 3) ∨ (1 ≤ k ∧ k ≤ 3 ∧ ¬ 0 ≤ l) ∨ (1 ≤ k ∧ k ≤ 3 ∧ 0 ≤ l ∧ ¬ l ≤ 65535) ∨ (1 ≤ k ∧ k ≤ 3 ∧ 0 ≤ l ∧ l ≤ 65535 ∧ ¬ 1 ≤ n) ∨ (1 ≤ k ∧ k ≤ 3 ∧ 0 ≤ l ∧ l ≤ 65535 ∧ 1 ≤ n ∧ ¬ n ≤ 255) ∨ (1 ≤ k ∧ k ≤ 3 ∧ 0 ≤ l ∧ l ≤ 65535 ∧ 1 ≤ n ∧ n ≤ 255 ∧ ¬ 0 ≤ p) ∨ (1 ≤ k ∧ k ≤ 3 ∧ 0 ≤ l ∧ l ≤ 65535 ∧ 1 ≤ n ∧ n ≤ 255 ∧ 0 ≤ p ∧ ¬ p < n) := by
    unfold TagOk at h; omega
  clear h
  rcases hs with h1 | ⟨h1, h2⟩ | ⟨h1, h2, h3⟩ | ⟨h1, h2, h3, h4⟩ | ⟨h1, h2, h3, h4, h5⟩ | ⟨h1, h2, h3, h4, h5, h6⟩ | ⟨h1, h2, h3, h4, h5, h6, h7⟩ | ⟨h1, h2, h3, h4, h5, h6, h7, h8⟩
  all_goals
    go_enter Try.func12, Try.ntmps12
    go_wp2
    go_ret
    exact ⟨rfl, (Below.refl _ _).alloc (Nat.le_refl _) _⟩
/-- are all bytes 255? -/
def AllFF (s : ByteArray) : Prop := ∀ c ∈ s.data.toList, c = 255
theorem countB_all (l : List UInt8) : ((Lib.countByte l 255 : Int) = (l.length : Int)) ↔ ∀ c ∈ l, c = 255 := by
  unfold Lib.countByte
  have h := List.count_eq_length (a := (255 : UInt8)) (l := l)
  constructor
  · intro e c hc
    exact (h.1 (by exact_mod_cast e) c hc).symm
  · intro e
    exact_mod_cast h.2 (fun c hc => (e c hc).symm)
theorem blank_yes (d b : ByteArray) (hd : AllFF d) (hb : AllFF b) (w : World) :
    Calls Try.prog 18 #[.string d, .string b] w fun e w' => e = .returned (.bool true) ∧ w = w' := by
  have H1 := hide ((countB_all d.data.toList).2 hd)
  have H2 := hide ((countB_all b.data.toList).2 hb)
  clear hd hb
  go_enter Try.func18, Try.ntmps18
  go_wp2_with fail
  refine (Try.strings_Count_one d 255 _).mono ?_
  rintro e w1 ⟨rfl, rfl⟩
  rw [H1.out, size_list]
  go_wp2_with fail
  refine (Try.strings_Count_one b 255 _).mono ?_
  rintro e w1 ⟨rfl, rfl⟩
  rw [H2.out, size_list]
  go_wp2_with fail
  go_ret
  exact ⟨rfl, rfl⟩
theorem blank_no (d b : ByteArray) (h : ¬ (AllFF d ∧ AllFF b)) (w : World) :
    Calls Try.prog 18 #[.string d, .string b] w fun e w' => e = .returned (.bool false) ∧ w = w' := by
  by_cases hd : AllFF d
  · have hb : ¬ AllFF b := fun e => h ⟨hd, e⟩
    have H1 := hide ((countB_all d.data.toList).2 hd)
    have hx : (((Lib.countByte b.data.toList 255 : Nat) : Int) == (b.size : Int)) = false := by
      rw [beq_eq_false_iff_ne, ← size_list]
      exact fun e => hb ((countB_all b.data.toList).1 e)
    have HX := hide hx
    clear h hd hb hx
    go_enter Try.func18, Try.ntmps18
    go_wp2_with fail
    refine (Try.strings_Count_one d 255 _).mono ?_
    rintro e w1 ⟨rfl, rfl⟩
    rw [H1.out, size_list]
    go_wp2_with fail
    refine (Try.strings_Count_one b 255 _).mono ?_
    rintro e w1 ⟨rfl, rfl⟩
    have hx := HX.out
    go_wp2_with fail
    go_ret
    exact ⟨rfl, rfl⟩
  · have hx : (((Lib.countByte d.data.toList 255 : Nat) : Int) == (d.size : Int)) = false := by
      rw [beq_eq_false_iff_ne, ← size_list]
      exact fun e => hd ((countB_all d.data.toList).1 e)
    have HX := hide hx
    clear h hd hx
    go_enter Try.func18, Try.ntmps18
    go_wp2_with fail
    refine (Try.strings_Count_one d 255 _).mono ?_
    rintro e w1 ⟨rfl, rfl⟩
    have hx := HX.out
    go_wp2_with fail
    go_ret
    exact ⟨rfl, rfl⟩
/-- do these bytes tell that a block is bad from the factory? -/
def factB (b : ByteArray) : Bool := b.size == 32 && !(Lib.hasPrefix b.data.toList [255])
theorem factory_any (b : ByteArray) (hb : b.size ≤ 9223372036854775807) (w : World) :
    Calls Try.prog 19 #[.string b] w fun e w' => e = .returned (.bool (factB b)) ∧ w = w' := by
  by_cases h : b.size = 32
  · have HZ := hide (show (!(Lib.hasPrefix b.data.toList [255])) = factB b by unfold factB; rw [h]; rfl)
    have hx : ((b.size : Int) == 32) = true := by rw [h]; rfl
    have HX := hide hx
    clear h hx
    generalize factB b = z at *
    have hx := HX.out
    go_enter Try.func19, Try.ntmps19
    go_wp2_with fail
    refine (Try.strings_HasPrefix b ⟨#[255]⟩ _).mono ?_
    rintro e w1 ⟨rfl, rfl⟩
    generalize Lib.hasPrefix b.data.toList (ByteArray.mk #[255]).data.toList = y at *
    go_wp2_with fail
    go_ret
    exact ⟨ret_bb (by first | exact HZ.out | rfl), rfl⟩
  · have HZ := hide (show false = factB b by unfold factB; rw [beq_eq_false_iff_ne.2 h]; rfl)
    have hx : ((b.size : Int) == 32) = false := by rw [beq_eq_false_iff_ne]; omega
    clear h
    generalize factB b = z at *
    go_enter Try.func19, Try.ntmps19
    go_wp2_with fail
    go_ret
    exact ⟨ret_bb HZ.out, rfl⟩
end Go.Proofs.Ytoigejgpagoghaa
