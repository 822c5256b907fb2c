/-
  Which function a call through container/heap's interface is, where a pointer to entries lies in it.
-/
import Derived.Test.YtjjaaahoophgpaaMeth
namespace Go.Proofs.Ytjjaaahoophgpaa
open Go.RowKit Go.Lib
set_option linter.unusedVariables false

variable {W : World} {b n cap : Nat} {a : Option Addr}
theorem loadEntries (h : W.cell? ⟨b, 0, none⟩ = some (.slice a n cap)) : (loadVar 60 ⟨b, 0, none⟩).run Try.prog W = .ok (.slice a n cap) W := by
  have h1 : (isAgg 60).run Try.prog W = .ok false W := by kernel_rfl
  unfold loadVar
  simp [h1, h]
theorem wrap_chk (nm : String) : (Builtin.ssaWrapNilChk_ #[64] 64 #[.pointer (some ⟨b, 0, none⟩), strVal "", strVal nm]).run Try.prog W = .ok (.pointer (some ⟨b, 0, none⟩)) W := by kernel_rfl
theorem method_of {fuel : Nat} {name : String} {f : FuncId} (hi : (Try.prog.info? 64).bind (fun i => (i.methods.find? (·.name == name)).map fun m => (m.path.size, m.func)) = some (0, some (f, false)))
    (hu : Try.prog.underlying 64 = some (.pointer 60)) (h : W.cell? ⟨b, 0, none⟩ = some (.slice a n cap)) : (method (fuel + 1) 64 (.pointer (some ⟨b, 0, none⟩)) name).run Try.prog W = .ok (f, .slice a n cap) W := by
  cases hq : Try.prog.info? 64 with
  | none => rw [hq] at hi; cases hi
  | some i =>
    rw [hq] at hi
    cases hm : i.methods.find? (·.name == name) with
    | none => simp [hm] at hi
    | some m =>
      simp only [Option.bind_some, hm, Option.map_some, Option.some.injEq, Prod.mk.injEq] at hi
      have hp : m.path = #[] := Array.eq_empty_of_size_eq_zero hi.1
      unfold method
      simp [typeInfo, hq, hm, hp, hi.2, follow, receiverAt, run_underlying hu, Place.get, wrap_chk, asAddr, loadEntries h]
theorem method_len (h : W.cell? ⟨b, 0, none⟩ = some (.slice a n cap)) : (method 198 64 (.pointer (some ⟨b, 0, none⟩)) "Len").run Try.prog W = .ok (55, .slice a n cap) W :=
  method_of (fuel := 197) (by kernel_rfl) Try.underlying64 h
theorem method_less (h : W.cell? ⟨b, 0, none⟩ = some (.slice a n cap)) : (method 198 64 (.pointer (some ⟨b, 0, none⟩)) "Less").run Try.prog W = .ok (56, .slice a n cap) W :=
  method_of (fuel := 197) (by kernel_rfl) Try.underlying64 h
theorem method_swap (h : W.cell? ⟨b, 0, none⟩ = some (.slice a n cap)) : (method 198 64 (.pointer (some ⟨b, 0, none⟩)) "Swap").run Try.prog W = .ok (57, .slice a n cap) W :=
  method_of (fuel := 197) (by kernel_rfl) Try.underlying64 h
theorem method_pop (b : Nat) (W : World) : (method 198 64 (.pointer (some ⟨b, 0, none⟩)) "Pop").run Try.prog W = .ok (58, .pointer (some ⟨b, 0, none⟩)) W := by kernel_rfl
theorem method_push (b : Nat) (W : World) : (method 198 64 (.pointer (some ⟨b, 0, none⟩)) "Push").run Try.prog W = .ok (59, .pointer (some ⟨b, 0, none⟩)) W := by kernel_rfl
end Go.Proofs.Ytjjaaahoophgpaa
