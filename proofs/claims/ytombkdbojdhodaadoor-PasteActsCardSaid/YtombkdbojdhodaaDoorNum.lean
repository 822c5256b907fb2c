/-
  A slice's numbers while the call goes on; the bytes of one character as a text; what Add may leave.
-/
import Derived.Test.YtombkdbojdhodaaDoorLw
import Derived.Test.YtombkdbojdhodaaDoorArgs
namespace Go.Proofs.YtombkdbojdhodaaDoor
open Go.RowKit Go.Lib
set_option linter.unusedVariables false

theorem Is.at {w wr : World} {a : Option Addr} {l : List Int} (h : Is w a l) {F : List Nat} (hs : Stp [] w F wr) {i : Nat} (hi : i < l.length) : ∃ b off, a = some ⟨b, off, none⟩ ∧ wr.cell? ⟨b, off + i, none⟩ = some (.int .i64 (l[i]!)) := by
  obtain ⟨b, off, h1, hb, h2⟩ := h (by intro e; subst e; simp at hi)
  exact ⟨b, off, h1, (hs.cell (a := ⟨b, off + i, none⟩) hb (by simp)).trans (h2 i hi)⟩
/-- The document's Put of a character, as bytes. -/
theorem rput8 (c : Nat) (W : World) (h : c ≤ 1114111) : Calls Tryd.prog 37 #[.int .i64 (c : Int)] W fun en w' => ∃ a cap, en = .returned (.slice a (enc8 c).length cap) ∧ Bts w' a (enc8 c) ∧ Stp [] W [] w' :=
  (U.rput_any c W h).mono fun en w' ⟨v, h1, h2, h3⟩ => by
    have ho := own_of_U h2 (U.enc_lt c h)
    rw [show (U.enc c).map UInt8.ofNat = enc8 c from rfl] at ho
    obtain ⟨a, cap, rfl, hb, _⟩ := ho.bts
    exact ⟨a, cap, h1, hb, Stp.of_below h3⟩
/-- What Add leaves while a paste is begun. -/
theorem adS_cases (N : Nat) (c : Int) (X : List Nat) (ov : Bool) :
    (∃ m : Nat, c = (m : Int) ∧ U.prB (m : Int) = true ∧ ov = false ∧ (fl X).length + (enc8 m).length ≤ N ∧ adS N c ⟨X, true, ov⟩ = (0, ⟨X ++ [m], true, false⟩)) ∨
    (U.prB c = false ∧ adS N c ⟨X, true, ov⟩ = (2, ⟨X, true, ov⟩)) ∨
    (∃ m : Nat, c = (m : Int) ∧ U.prB (m : Int) = true ∧ (ov = true ∨ N < (fl X).length + (enc8 m).length) ∧ adS N c ⟨X, true, ov⟩ = (4, ⟨X, true, true⟩)) := by
  by_cases hp : U.prB c = true
  · have h0 := of_decide_eq_true hp
    obtain ⟨m, rfl⟩ : ∃ m : Nat, c = (m : Int) := ⟨c.toNat, by omega⟩
    cases ov with
    | true => exact .inr (.inr ⟨m, rfl, hp, .inl rfl, by unfold adS; rw [if_pos rfl, if_pos hp, if_pos rfl]⟩)
    | false =>
      by_cases hf : (fl X).length + (enc8 m).length ≤ N
      · exact .inl ⟨m, rfl, hp, rfl, hf, by unfold adS; rw [if_pos rfl, if_pos hp, if_neg (by simp), Int.toNat_natCast, fl_one, if_pos hf]⟩
      · exact .inr (.inr ⟨m, rfl, hp, .inr (by omega), by unfold adS; rw [if_pos rfl, if_pos hp, if_neg (by simp), Int.toNat_natCast, fl_one, if_neg hf]⟩)
  · have hpf : U.prB c = false := by simpa using hp
    exact .inr (.inl ⟨hpf, by unfold adS; rw [if_pos rfl, if_neg hp]⟩)
theorem adS_form (N : Nat) (c : Int) (X : List Nat) (ov : Bool) : ∃ r X' ov', adS N c ⟨X, true, ov⟩ = (r, ⟨X', true, ov'⟩) := by
  rcases adS_cases N c X ov with ⟨m, _, _, _, _, h⟩ | ⟨_, h⟩ | ⟨m, _, _, _, h⟩
  all_goals exact ⟨_, _, _, h⟩
end Go.Proofs.YtombkdbojdhodaaDoor
