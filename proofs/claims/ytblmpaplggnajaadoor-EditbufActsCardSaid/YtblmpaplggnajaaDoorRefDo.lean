/-
  The document's Do.
-/
import Derived.Test.YtblmpaplggnajaaDoorRefD5
import Derived.Test.YtblmpaplggnajaaDoorTwo
namespace Go.Proofs.YtblmpaplggnajaaDoor
open Go.RowKit Go.Lib
set_option linter.unusedVariables false

theorem rdo_run : DoOK := fun F W m N A B k c h hN => by
  obtain ⟨pa, ca, pb, cb, h1⟩ := h.ex
  unfold doS
  by_cases k0 : k = 0
  · subst k0; rw [if_pos rfl]; exact rdo_0 h1 h.le h.pr hN c
  rw [if_neg k0]
  by_cases k2 : k = 2
  · subst k2; rw [if_pos rfl]; exact rdo_2 h1 h.le h.pr c
  rw [if_neg k2]
  by_cases k3 : k = 3
  · subst k3; rw [if_pos rfl]; exact rdo_3 h1 h.le h.pr c
  rw [if_neg k3]
  by_cases k4 : k = 4
  · subst k4
    rw [if_pos rfl]
    by_cases hA : A = []
    · subst hA
      exact rdo_4n h1 h.le h.pr c rfl
    · exact rdo_4y h1 h.le h.pr c hA
  rw [if_neg k4]
  by_cases k5 : k = 5
  · subst k5
    rw [if_pos rfl]
    cases B with
    | nil => simpa using rdo_5n h1 h.le h.pr c rfl
    | cons v B' => exact rdo_5y h1 h.le h.pr c v B' rfl
  rw [if_neg k5]
  by_cases k6 : k = 6
  · subst k6; rw [if_pos rfl]; exact rdo_6 h1 h.le h.pr c
  rw [if_neg k6]
  by_cases k7 : k = 7
  · subst k7; rw [if_pos rfl]; exact rdo_7 h1 h.le h.pr c
  rw [if_neg k7]
  by_cases k8 : k = 8
  · subst k8; rw [if_pos rfl]; exact rdo_8 h1 h.le h.pr c
  rw [if_neg k8]
  by_cases k9 : k = 9
  · subst k9; rw [if_pos rfl]; exact rdo_9 h1 h.le h.pr c
  rw [if_neg k9]
  exact rdo_none h1 h.le h.pr k c ⟨k0, k2, k3, k4, k5, k6, k7, k8, k9⟩
end Go.Proofs.YtblmpaplggnajaaDoor
