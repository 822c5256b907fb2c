/-
  The buffer's calls: Back, Delete, Left, Right, Home, Last, KillStart, KillEnd; what lies a character or a text.
-/
import Derived.Test.YtombkdbojdhodaaDoorBuf2
import Derived.Deep.RegionWith
namespace Go.Proofs.YtombkdbojdhodaaDoor
open Go.RowKit Go.Lib
set_option linter.unusedVariables false

theorem Did.from {e b g N : Nat} {r : Rs} {W W1 w' : World} {en : Ending} (h : Did e b g N r W1 en w') (hs : Stp [e, b, g] W [e, b, g] W1) : Did e b g N r W en w' := ⟨h.1, h.2.1, hs.trans h.2.2⟩
section
variable {W : World} {e b g N : Nat} {A B : List Nat}
theorem Bu.drew (h : Bu W e b g N A B) : Bu W.drew e b g N A B := h.stays (Stp.drew [] W)
theorem Bu.drewN (h : Bu W e b g N A B) (q : Nat) : Bu (W.drewN q) e b g N A B := h.stays (Stp.drewN [] W q)
set_option maxRecDepth 100000 in
theorem back_run (h : Bu W e b g N A B) (c : Int) : Calls Tryd.prog 62 #[.pointer (some ⟨e, 0, none⟩), .int .i64 c] W (Did e b g N ⟨0, A.dropLast, B⟩ W) := by
  have KA := Lib.hid (fun W' (k : Bu W' e b g N A B) => ahead_run k)
  have KT := Lib.hid (fun W' (k : Bu W' e b g N A B) => take_run k (A' := A.dropLast) (X := lst A) (B' := B) (by rw [dl_lst]) (fl A.dropLast).length (fl A).length rfl (by rw [dl_lst]))
  have c1 := h.c1
  have H := Lib.hid h
  clear h
  generalize (fl A).length = m at *
  generalize (fl A.dropLast).length = n at *
  go_enter Tryd.func62, Tryd.ntmps62
  go_wp2_with fail
  go_region_with (first
    | (go_at_call 76; refine (KA.out _ ?_).mono ?_; (repeat (first | exact H.out | refine Bu.drew ?_ | refine Bu.drewN ?_ _)); rintro _ _ ⟨rfl, rfl⟩)
    | (go_at_call 75; refine (KT.out _ ?_).mono ?_; (repeat (first | exact H.out | refine Bu.drew ?_ | refine Bu.drewN ?_ _)); rintro _ w1 ⟨rfl, h1, h2⟩; have HO := Lib.hid (And.intro h1 h2); clear h1 h2))
  all_goals
    go_wp2
    go_ret
    refine Did.from ⟨rfl, HO.out.1, HO.out.2⟩ ?_
    (repeat (first | exact Stp.refl _ _ | refine Stp.trans ?_ (Stp.drew _ _)))
set_option maxRecDepth 100000 in
theorem remove_run (h : Bu W e b g N A B) (c : Int) : Calls Tryd.prog 63 #[.pointer (some ⟨e, 0, none⟩), .int .i64 c] W (Did e b g N ⟨0, A, B.drop 1⟩ W) := by
  have KA := Lib.hid (fun W' (k : Bu W' e b g N A B) => behind_run k)
  have KT := Lib.hid (fun W' (k : Bu W' e b g N A B) => take_run k (A' := A) (X := B.take 1) (B' := B.drop 1) (by rw [List.append_assoc, List.take_append_drop]) (fl A).length (fl (A ++ B.take 1)).length rfl rfl)
  have c1 := h.c1
  have H := Lib.hid h
  clear h
  generalize (fl A).length = m at *
  generalize (fl (A ++ B.take 1)).length = n at *
  go_enter Tryd.func63, Tryd.ntmps63
  go_wp2_with fail
  go_region_with (first
    | (go_at_call 77; refine (KA.out _ ?_).mono ?_; (repeat (first | exact H.out | refine Bu.drew ?_ | refine Bu.drewN ?_ _)); rintro _ _ ⟨rfl, m1, rfl⟩)
    | (go_at_call 75; refine (KT.out _ ?_).mono ?_; (repeat (first | exact H.out | refine Bu.drew ?_ | refine Bu.drewN ?_ _)); rintro _ w1 ⟨rfl, h1, h2⟩; have HO := Lib.hid (And.intro h1 h2); clear h1 h2))
  all_goals
    go_wp2
    go_ret
    refine Did.from ⟨rfl, HO.out.1, HO.out.2⟩ ?_
    (repeat (first | exact Stp.refl _ _ | refine Stp.trans ?_ (Stp.drew _ _) | refine Stp.trans ?_ (Stp.drewN _ _ _)))
theorem left_run (h : Bu W e b g N A B) (c : Int) : Calls Tryd.prog 64 #[.pointer (some ⟨e, 0, none⟩), .int .i64 c] W (Did e b g N ⟨0, A.dropLast, lst A ++ B⟩ W) := by
  have K1 := Lib.hid (ahead_run h)
  have K2 := Lib.hid (stand_run h (A' := A.dropLast) (B' := lst A ++ B) (by rw [← List.append_assoc, dl_lst]) (fl A.dropLast).length rfl)
  clear h
  generalize (fl A.dropLast).length = n at *
  go_enter Tryd.func64, Tryd.ntmps64
  go_wp2_with fail
  refine K1.out.mono ?_
  rintro _ _ ⟨rfl, rfl⟩
  go_wp2_with fail
  refine K2.out.mono ?_
  rintro _ w1 ⟨rfl, h1, h2⟩
  have HO := Lib.hid (And.intro h1 h2)
  clear h1 h2
  go_wp2
  go_ret
  exact ⟨rfl, HO.out.1, HO.out.2⟩
theorem right_run (h : Bu W e b g N A B) (c : Int) : Calls Tryd.prog 65 #[.pointer (some ⟨e, 0, none⟩), .int .i64 c] W (Did e b g N ⟨0, A ++ B.take 1, B.drop 1⟩ W) := by
  have K1 := Lib.hid (behind_run h)
  have K2 := Lib.hid (fun q => stand_run (h.drewN q) (A' := A ++ B.take 1) (B' := B.drop 1) (by rw [List.append_assoc, List.take_append_drop]) (fl (A ++ B.take 1)).length rfl)
  clear h
  generalize (fl (A ++ B.take 1)).length = n at *
  go_enter Tryd.func65, Tryd.ntmps65
  go_wp2_with fail
  refine K1.out.mono ?_
  rintro _ _ ⟨rfl, m1, rfl⟩
  go_wp2_with fail
  refine (K2.out m1).mono ?_
  rintro _ w1 ⟨rfl, h1, h2⟩
  have HO := Lib.hid (And.intro h1 h2)
  clear h1 h2
  go_wp2
  go_ret
  exact Did.from ⟨rfl, HO.out.1, HO.out.2⟩ (Stp.drewN _ _ _)
theorem home_run (h : Bu W e b g N A B) (c : Int) : Calls Tryd.prog 66 #[.pointer (some ⟨e, 0, none⟩), .int .i64 c] W (Did e b g N ⟨0, [], A ++ B⟩ W) := by
  have K2 : Calls Tryd.prog 78 #[.pointer (some ⟨e, 0, none⟩), .int .i64 0] W (Did e b g N ⟨0, [], A ++ B⟩ W) := stand_run h (A' := []) (B' := A ++ B) rfl 0 rfl
  have K2 := Lib.hid K2
  clear h
  go_enter Tryd.func66, Tryd.ntmps66
  go_wp2_with fail
  refine K2.out.mono ?_
  rintro _ w1 ⟨rfl, h1, h2⟩
  have HO := Lib.hid (And.intro h1 h2)
  clear h1 h2
  go_wp2
  go_ret
  exact ⟨rfl, HO.out.1, HO.out.2⟩
theorem last_run (h : Bu W e b g N A B) (c : Int) : Calls Tryd.prog 67 #[.pointer (some ⟨e, 0, none⟩), .int .i64 c] W (Did e b g N ⟨0, A ++ B, []⟩ W) := by
  have K1 := Lib.hid (len_cl h.ar)
  have K2 := Lib.hid (stand_run h (A' := A ++ B) (B' := []) (by simp) (fl (A ++ B)).length rfl)
  have c0 := h.c0
  clear h
  generalize (fl (A ++ B)).length = n at *
  go_enter Tryd.func67, Tryd.ntmps67
  go_wp2_with fail
  refine K1.out.mono ?_
  rintro _ _ ⟨rfl, rfl⟩
  go_wp2_with fail
  refine K2.out.mono ?_
  rintro _ w1 ⟨rfl, h1, h2⟩
  have HO := Lib.hid (And.intro h1 h2)
  clear h1 h2
  go_wp2
  go_ret
  exact ⟨rfl, HO.out.1, HO.out.2⟩
set_option maxRecDepth 100000 in
theorem killStart_run (h : Bu W e b g N A B) (c : Int) : Calls Tryd.prog 68 #[.pointer (some ⟨e, 0, none⟩), .int .i64 c] W (Did e b g N ⟨0, [], B⟩ W) := by
  have KT : ∀ W', Bu W' e b g N A B → Calls Tryd.prog 75 #[.pointer (some ⟨e, 0, none⟩), .int .i64 0, .int .i64 ((fl A).length : Int)] W' (Did e b g N ⟨0, [], B⟩ W') := fun W' k => take_run k (A' := []) (X := A) (B' := B) rfl 0 (fl A).length rfl rfl
  have KT := Lib.hid KT
  have c1 := h.c1
  have H := Lib.hid h
  clear h
  generalize (fl A).length = m at *
  go_enter Tryd.func68, Tryd.ntmps68
  go_wp2_with fail
  first
    | (refine (KT.out _ H.out).mono ?_; rintro _ w1 ⟨rfl, h1, h2⟩; have HO := Lib.hid (And.intro h1 h2); clear h1 h2)
    | (go_region_with (go_at_call 75; refine (KT.out _ ?_).mono ?_; (repeat (first | exact H.out | refine Bu.drew ?_ | refine Bu.drewN ?_ _)); rintro _ w1 ⟨rfl, h1, h2⟩; have HO := Lib.hid (And.intro h1 h2); clear h1 h2))
  all_goals
    go_wp2
    go_ret
    refine Did.from ⟨rfl, HO.out.1, HO.out.2⟩ ?_
    (repeat (first | exact Stp.refl _ _ | refine Stp.trans ?_ (Stp.drew _ _) | refine Stp.trans ?_ (Stp.drewN _ _ _)))
set_option maxRecDepth 100000 in
theorem killEnd_run (h : Bu W e b g N A B) (c : Int) : Calls Tryd.prog 69 #[.pointer (some ⟨e, 0, none⟩), .int .i64 c] W (Did e b g N ⟨0, A, []⟩ W) := by
  have KA := Lib.hid (fun W' (k : Bu W' e b g N A B) => len_cl k.ar)
  have KT := Lib.hid (fun W' (k : Bu W' e b g N A B) => take_run k (A' := A) (X := B) (B' := []) (by simp) (fl A).length (fl (A ++ B)).length rfl rfl)
  have c1 := h.c1
  have c0 := h.c0
  have H := Lib.hid h
  clear h
  generalize (fl A).length = m at *
  generalize (fl (A ++ B)).length = n at *
  go_enter Tryd.func69, Tryd.ntmps69
  go_wp2_with fail
  go_region_with (first
    | (go_at_call 27; refine (KA.out _ ?_).mono ?_; (repeat (first | exact H.out | refine Bu.drew ?_ | refine Bu.drewN ?_ _)); rintro _ _ ⟨rfl, rfl⟩)
    | (go_at_call 75; refine (KT.out _ ?_).mono ?_; (repeat (first | exact H.out | refine Bu.drew ?_ | refine Bu.drewN ?_ _)); rintro _ w1 ⟨rfl, h1, h2⟩; have HO := Lib.hid (And.intro h1 h2); clear h1 h2))
  all_goals
    go_wp2
    go_ret
    refine Did.from ⟨rfl, HO.out.1, HO.out.2⟩ ?_
    (repeat (first | exact Stp.refl _ _ | refine Stp.trans ?_ (Stp.drew _ _) | refine Stp.trans ?_ (Stp.drewN _ _ _)))
end
end Go.Proofs.YtombkdbojdhodaaDoor
