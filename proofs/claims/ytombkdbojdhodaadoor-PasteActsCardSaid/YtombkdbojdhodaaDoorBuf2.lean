/-
  The buffer's calls: Count, At, Copy; Back, Delete, Left, Right, Home, Last, KillStart, KillEnd; what lies a character or a text.
-/
import Derived.Test.YtombkdbojdhodaaDoorBuf
namespace Go.Proofs.YtombkdbojdhodaaDoor
open Go.RowKit Go.Lib
set_option linter.unusedVariables false

/-- What a call leaves: its error, and a buffer. -/
def Did (e b g N : Nat) (r : Rs) (W : World) (en : Ending) (w' : World) : Prop := en = .returned (.int .i64 r.e) ∧ Bu w' e b g N r.A r.B ∧ Stp [e, b, g] W [e, b, g] w'
section
variable {W : World} {e b g N : Nat} {A B : List Nat}
theorem countB_nil (W : World) : Calls Tryd.prog 51 #[.pointer none, .int .i64 0] W (Gives (.int .i64 0) W) := by
  go_enter Tryd.func51, Tryd.ntmps51
  go_wp2
  go_loopg [5, 6, 8] 0 (fun gk vb vi vh wr => vb = .int .i64 0 ∧ vh = .int .i64 0 ∧ wr = W)
  case atStart => exact ⟨rfl, rfl, rfl⟩
  case round =>
    obtain ⟨rfl, rfl, rfl⟩ := hrel
    go_wp2
    go_ret
    exact ⟨rfl, rfl⟩
theorem bat_nil (W : World) : Calls Tryd.prog 30 #[.pointer none] W (Gives (.int .i64 0) W) := by
  go_enter Tryd.func30, Tryd.ntmps30
  go_wp2
  go_ret
  exact ⟨rfl, rfl⟩
theorem bat_run (h : Bu W e b g N A B) : Calls Tryd.prog 30 #[.pointer (some ⟨e, 0, none⟩)] W (Gives (.int .i64 ((A.length : Nat) : Int)) W) := by
  have K2 := count_run h (fl A).length (by rw [fl_app, List.length_append]; omega)
  rw [fl_app, List.take_left' rfl, cnt_fl h.pr.left] at K2
  have c1 := h.c1
  have K2 := Lib.hid K2
  clear h
  go_enter Tryd.func30, Tryd.ntmps30
  go_wp2_with fail
  refine K2.out.mono ?_
  rintro _ _ ⟨rfl, rfl⟩
  go_wp2
  go_ret
  exact ⟨rfl, rfl⟩
theorem bcopy_nil (v : Value) (W : World) : Calls Tryd.prog 50 #[.pointer none, v] W (Gives (.int .i64 0) W) := by
  go_enter Tryd.func50, Tryd.ntmps50
  go_wp2
  go_ret
  exact ⟨rfl, rfl⟩
theorem bcopy_run (h : Bu W e b g N A B) (k n c : Nat) (T : List UInt8) (hB : Blk W k T) (hT : T.length = n) (hk : k ≠ g) : Calls Tryd.prog 50 #[.pointer (some ⟨e, 0, none⟩), .slice (some ⟨k, 0, none⟩) n c] W
    fun en w' => en = .returned (.int .i64 ((min (fl (A ++ B)).length n : Nat) : Int)) ∧ Blk w' k (lay T 0 ((fl (A ++ B)).take n)) ∧ Stp [k] W [k] w' := by
  have K1 := Lib.hid (copy_run h.ar k n c T hB hT hk)
  have c0 := h.c0
  clear h
  generalize min (fl (A ++ B)).length n = m at *
  go_enter Tryd.func50, Tryd.ntmps50
  go_wp2_with fail
  refine K1.out.mono ?_
  rintro _ w1 ⟨rfl, h1, h2⟩
  have H := Lib.hid (And.intro h1 h2)
  clear h1 h2
  go_wp2
  go_ret
  exact ⟨rfl, H.out.1, H.out.2⟩

/-! ### The place goes, or what stands beside it -/
theorem stand_run (h : Bu W e b g N A B) {A' B' : List Nat} (hab : A' ++ B' = A ++ B) (n : Nat) (hn : n = (fl A').length) : Calls Tryd.prog 78 #[.pointer (some ⟨e, 0, none⟩), .int .i64 (n : Int)] W (Did e b g N ⟨0, A', B'⟩ W) := by
  have c1 := h.c1
  have f1 := h.f1
  have H := Lib.hid (h.place hab n hn)
  clear h hn hab
  go_enter Tryd.func78, Tryd.ntmps78
  go_wp2
  go_ret
  exact ⟨rfl, H.out, Stp.setCell _ _ (by simp)⟩
theorem take_run (h : Bu W e b g N A B) {A' X B' : List Nat} (hab : A' ++ X ++ B' = A ++ B) (n m : Nat) (hn : n = (fl A').length) (hm : m = (fl (A' ++ X)).length) :
    Calls Tryd.prog 75 #[.pointer (some ⟨e, 0, none⟩), .int .i64 (n : Int), .int .i64 (m : Int)] W (Did e b g N ⟨0, A', B'⟩ W) := by
  have hp := h.place (A' := A') (B' := X ++ B') (by rw [← List.append_assoc, hab]) n hn
  have hl := congrArg (fun l => (fl l).length) hab
  simp only [fl_app, List.length_append] at hl hm
  have K := Lib.hid (delete_run hp.ar n m (by omega) (by simp only [fl_app, List.length_append]; omega))
  have c0 := hp.c0
  have c1 := h.c1
  have f1 := h.f1
  have e1 : (fl (A' ++ (X ++ B'))).take n ++ (fl (A' ++ (X ++ B'))).drop m = fl (A' ++ B') := by
    have e2 : fl (A' ++ (X ++ B')) = (fl A' ++ fl X) ++ fl B' := by simp [fl_app]
    have e3 : n = (fl A').length := hn
    have e4 : m = (fl A' ++ fl X).length := by rw [List.length_append]; exact hm
    rw [fl_app A' B']
    congr 1
    · rw [e2, List.append_assoc, e3, List.take_left' rfl]
    · rw [e2, e4, List.drop_left' rfl]
  have H := Lib.hid (And.intro hp e1)
  clear h hp hab hl e1 hn hm
  go_enter Tryd.func75, Tryd.ntmps75
  go_wp2_with fail
  refine K.out.mono ?_
  rintro _ w1 ⟨rfl, ha, hs⟩
  rw [H.out.2] at ha
  have HO := Lib.hid (And.intro ha hs)
  clear ha hs K
  go_wp2
  go_ret
  obtain ⟨ha, hs⟩ := HO.out
  obtain ⟨hp, _⟩ := H.out
  refine ⟨rfl, ⟨(hs.block e hp.lt.1 (by simp [hp.eb, hp.eg])).trans hp.obj, ha, hp.pr.left.app hp.pr.right.right, hp.eb, hp.eg⟩, (Stp.setCell (F := [e, b, g]) (a := ⟨e, 1, none⟩) W _ (by simp)).trans (hs.more (fun k hk => by simp at hk; simp; omega))⟩
end
end Go.Proofs.YtombkdbojdhodaaDoor
