/-
  The text of a slice of bytes.
-/
import Derived.Test.YtcailmgincafcaaDoorUPut2
import Derived.Laws.BytesArg
namespace Go.Proofs.YtcailmgincafcaaDoor.U
open Go.RowKit Go.Lib
set_option linter.unusedVariables false

/-- The text of a list of bytes. -/
def str (l : List Nat) : ByteArray := strOfNums (l.map fun (x : Nat) => (x : Int))

theorem conv_bts {W : World} {a : Option Addr} {l : List Nat} (cap : Nat) (h : Bts W a l) : (convert 22 9 (.slice a l.length cap)).run Tryd.prog W = .ok (.string (str l)) W := by
  by_cases hl : l = []
  · subst hl
    have e0 : str [] = ByteArray.empty := rfl
    rw [e0, List.length_nil]
    rcases a with _ | ⟨b, off, spot⟩
    · exact run_convert_bytes_nil W _ _ Tryd.underlying22 Tryd.underlying5 0 cap _ Tryd.underlying9
    · rw [run_convert_bytes_string W _ _ _ _ _ cap Tryd.underlying22 Tryd.underlying5 Tryd.underlying9]
      have h0 := run_loadCells_list (P := Tryd.prog) W ⟨b, off, spot⟩ [] (by simp)
      rw [run_bytesToString W _ 0 cap [] (by simpa using h0)]
      rfl
  · obtain ⟨b, off, rfl, hc⟩ := h.2 hl
    refine run_convert_bytes_arg W _ _ Tryd.underlying22 Tryd.underlying5 b off l.length cap (l.map fun (x : Nat) => (x : Int)) (by simp) (fun i hi => ?_) _ Tryd.underlying9
    rw [hc i hi]
    simp [List.getD, hi]

theorem str_inj {l m : List Nat} (hl : ∀ x ∈ l, x < 256) (hm : ∀ x ∈ m, x < 256) (h : str l = str m) : l = m := by
  have e := congrArg (fun s : ByteArray => s.data.toList.map fun (x : UInt8) => x.toNat) h
  simp only [str, strOfNums_data, List.map_map] at e
  have key : ∀ l : List Nat, (∀ x ∈ l, x < 256) → l.map ((fun (x : UInt8) => x.toNat) ∘ (fun n : Int => UInt8.ofNat n.toNat) ∘ fun (x : Nat) => (x : Int)) = l := by
    intro l hl
    have : ∀ x ∈ l, ((fun (x : UInt8) => x.toNat) ∘ (fun n : Int => UInt8.ofNat n.toNat) ∘ fun (x : Nat) => (x : Int)) x = x := by
      intro x hx
      simp only [Function.comp, Int.toNat_natCast, UInt8.toNat_ofNat']
      exact Nat.mod_eq_of_lt (hl x hx)
    rw [List.map_congr_left this]
    simp
  rw [key l hl, key m hm] at e
  exact e

end Go.Proofs.YtcailmgincafcaaDoor.U
