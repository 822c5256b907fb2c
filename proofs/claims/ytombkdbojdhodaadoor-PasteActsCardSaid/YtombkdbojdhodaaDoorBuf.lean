/-
  The buffer in memory; New, Len, and where characters begin.
-/
import Derived.Test.YtombkdbojdhodaaDoorEdp
namespace Go.Proofs.YtombkdbojdhodaaDoor
open Go.RowKit Go.Lib
set_option linter.unusedVariables false

/-- A buffer over an arena: the characters A ahead of the place, B behind it. -/
structure Bu (W : World) (e b g N : Nat) (A B : List Nat) : Prop where
  obj : W.heap[e]? = some (.cells #[.pointer (some ⟨b, 0, none⟩), .int .i64 ((fl A).length : Int)] 85 (0, 0))
  ar : Ar W b g N (fl (A ++ B))
  pr : Pr (A ++ B)
  eb : e ≠ b
  eg : e ≠ g
section
variable {W W' : World} {e b g N : Nat} {A B : List Nat}
theorem Bu.c0 (h : Bu W e b g N A B) : W.cell? ⟨e, 0, none⟩ = some (.pointer (some ⟨b, 0, none⟩)) := by rw [cell_of_row W e 0 _ _ _ h.obj]; rfl
theorem Bu.c1 (h : Bu W e b g N A B) : W.cell? ⟨e, 1, none⟩ = some (.int .i64 ((fl A).length : Int)) := by rw [cell_of_row W e 1 _ _ _ h.obj]; rfl
theorem Bu.f1 (h : Bu W e b g N A B) : W.frozen? ⟨e, 1, none⟩ = false := frozen_of_row W e 1 _ _ h.obj
theorem Bu.lt (h : Bu W e b g N A B) : e < W.heap.size ∧ b < W.heap.size ∧ g < W.heap.size := ⟨(Array.getElem?_eq_some_iff.1 h.obj).1, Cl.lt h.ar, h.ar.row.lt⟩
theorem Bu.other {F F' : List Nat} (h : Bu W e b g N A B) (hs : Stp F W F' W') (he : e ∉ F) (hb : b ∉ F) (hg : g ∉ F) : Bu W' e b g N A B :=
  ⟨(hs.block e h.lt.1 he).trans h.obj, h.ar.other hs hb hg, h.pr, h.eb, h.eg⟩
theorem Bu.stays {F : List Nat} (h : Bu W e b g N A B) (hs : Stp [] W F W') : Bu W' e b g N A B := h.other hs (by simp) (by simp) (by simp)
theorem Bu.lens (h : Bu W e b g N A B) : (fl A).length + (fl B).length = (fl (A ++ B)).length ∧ (fl (A ++ B)).length ≤ N ∧ N ≤ 4096 :=
  ⟨by rw [fl_app, List.length_append], h.ar.le, h.ar.top⟩
/-- Its place has gone. -/
theorem Bu.place (h : Bu W e b g N A B) {A' B' : List Nat} (hab : A' ++ B' = A ++ B) (n : Nat) (hn : n = (fl A').length) : Bu (W.setCell ⟨e, 1, none⟩ (.int .i64 (n : Int))) e b g N A' B' := by
  subst hn
  have hs : Stp [e] W [e] (W.setCell ⟨e, 1, none⟩ (.int .i64 ((fl A').length : Int))) := Stp.setCell (F := [e]) (a := ⟨e, 1, none⟩) W _ (by simp)
  exact ⟨heap_setCell_same W e 1 _ _ _ h.obj, by rw [hab]; exact h.ar.other hs (by simpa using h.eb.symm) (by simpa using h.eg.symm), by rw [hab]; exact h.pr, h.eb, h.eg⟩
end

/-! ### New, Len -/
theorem enew_nil (W : World) : Calls Tryd.prog 41 #[.pointer none] W (Gives (.tuple #[.pointer none, .int .i64 1]) W) := by
  go_enter Tryd.func41, Tryd.ntmps41
  go_wp2
  go_ret2
  exact ⟨rfl, rfl⟩
/-- What New answers. -/
def ENewed (b g N : Nat) (W : World) (e : Ending) (w' : World) : Prop := ∃ d, e = .returned (.tuple #[.pointer (some ⟨d, 0, none⟩), .int .i64 0]) ∧ W.heap.size ≤ d ∧ Bu w' d b g N [] [] ∧ Stp [b, g] W [d, b, g] w'
theorem enew_run {W : World} {b g N : Nat} {l : List UInt8} (h : Ar W b g N l) : Calls Tryd.prog 41 #[.pointer (some ⟨b, 0, none⟩)] W (ENewed b g N W) := by
  have K2 := Lib.hid (wipe_run h)
  have HL : Aside (b < W.heap.size ∧ g < W.heap.size) := ⟨Cl.lt h, h.row.lt⟩
  clear h
  go_enter Tryd.func41, Tryd.ntmps41
  go_wp2_with fail
  refine K2.out.mono ?_
  rintro _ w1 ⟨rfl, ha, hs⟩
  have H1 : Aside (Ar w1 b g N [] ∧ Stp [b, g] W [b, g] w1) := ⟨ha, hs⟩
  clear K2 ha hs
  go_wp2
  go_ret2
  have hz := H1.out.2.size
  refine ⟨w1.heap.size, rfl, hz, ⟨?_, H1.out.1.stays (Stp.alloc [] w1 _), Pr.nil, by have := HL.out; omega, by have := HL.out; omega⟩, H1.out.2.trans ?_⟩
  · rw [heap_alloc_new]
    rfl
  · have hs := Stp.alloc [b, g] w1 (.cells #[.pointer (some ⟨b, 0, none⟩), .int .i64 0] 85)
    exact ⟨hs.os, hs.tape, hs.output, hs.size, hs.block, fun k hk => by simp at hk ⊢; omega⟩
theorem blen_nil (W : World) : Calls Tryd.prog 40 #[.pointer none] W (Gives (.int .i64 0) W) := by
  go_enter Tryd.func40, Tryd.ntmps40
  go_wp2
  go_ret
  exact ⟨rfl, rfl⟩
section
variable {W : World} {e b g N : Nat} {A B : List Nat}
theorem blen_run (h : Bu W e b g N A B) : Calls Tryd.prog 40 #[.pointer (some ⟨e, 0, none⟩)] W (Gives (.int .i64 ((fl (A ++ B)).length : Int)) W) := by
  have K1 := Lib.hid (len_cl h.ar)
  have c0 := h.c0
  clear h
  go_enter Tryd.func40, Tryd.ntmps40
  go_wp2_with fail
  refine K1.out.mono ?_
  rintro _ W ⟨rfl, rfl⟩
  go_wp2
  go_ret
  exact ⟨rfl, rfl⟩
theorem pad_get {N : Nat} {l : List UInt8} {i : Nat} (h : i < l.length) : (pad N l)[i]! = l[i]! := by
  rw [getElem!_pos l i h, getElem!_pos _ i (by simp [pad]; omega)]
  simp [pad, h]
theorem begins_run (h : Bu W e b g N A B) (i : Nat) (hi : i < (fl (A ++ B)).length) : Calls Tryd.prog 70 #[.pointer (some ⟨e, 0, none⟩), .int .i64 (i : Int)] W (Gives (.bool (beg ((fl (A ++ B))[i]!))) W) := by
  have K1 := Lib.hid (at_run h.ar i hi)
  rw [pad_get hi] at K1
  have c0 := h.c0
  generalize (fl (A ++ B))[i]! = x at *
  unfold bval at K1
  unfold beg
  generalize x.toNat = n at *
  have v1 : decide (n < 128) = decide ((n : Int) < 128) := decide_eq_decide.2 (by omega)
  have v2 : decide (191 < n) = decide (191 < (n : Int)) := decide_eq_decide.2 (by omega)
  rw [v1, v2]
  clear h v1 v2
  go_enter Tryd.func70, Tryd.ntmps70
  go_wp2_with fail
  refine K1.out.mono ?_
  rintro _ W ⟨rfl, rfl⟩
  go_wp2
  all_goals
    go_ret
    exact ⟨rfl, rfl⟩
theorem max_zero (n : Nat) : ∀ (w : World) (ts : Array TypeId) (t : TypeId), (Builtin.max_ ts t #[.int .i64 (n : Int), .int .i64 0]).run Tryd.prog w = .ok (.int .i64 (n : Int)) w := fun w ts t => by
  rw [run_max_int2]
  by_cases h : (0 : Int) > (n : Int)
  · omega
  · rw [if_neg h]
theorem max_neg : ∀ (w : World) (ts : Array TypeId) (t : TypeId), (Builtin.max_ ts t #[.int .i64 (-1), .int .i64 0]).run Tryd.prog w = .ok (.int .i64 0) w := fun w ts t => by
  rw [run_max_int2]
  rfl
theorem min_fst (n m : Nat) (h : n ≤ m) : ∀ (w : World) (ts : Array TypeId) (t : TypeId), (Builtin.min_ ts t #[.int .i64 (n : Int), .int .i64 (m : Int)]).run Tryd.prog w = .ok (.int .i64 (n : Int)) w := fun w ts t => by
  rw [run_min_int2, if_neg (by omega)]
theorem min_snd (n m : Nat) (h : m ≤ n) : ∀ (w : World) (ts : Array TypeId) (t : TypeId), (Builtin.min_ ts t #[.int .i64 (n : Int), .int .i64 (m : Int)]).run Tryd.prog w = .ok (.int .i64 (m : Int)) w := fun w ts t => by
  rw [run_min_int2]
  by_cases h2 : (m : Int) < (n : Int)
  · rw [if_pos h2]
  · rw [if_neg h2, show (n : Int) = (m : Int) by omega]

set_option maxRecDepth 100000 in
theorem ahead_nil (h : Bu W e b g N [] B) : Calls Tryd.prog 76 #[.pointer (some ⟨e, 0, none⟩)] W (Gives (.int .i64 0) W) := by
  have c1 : W.cell? ⟨e, 1, none⟩ = some (.int .i64 0) := h.c1
  have hm := max_neg
  have hn : IntKind.i64.wrap ((0 : Int) - 1) = -1 := by decide
  clear h
  go_enter Tryd.func76, Tryd.ntmps76
  go_wp2
  go_loopg [3] 1 (fun gk vi wr => vi = .int .i64 0 ∧ 0 ≤ gk ∧ wr = W)
  case atStart => exact ⟨rfl, Nat.zero_le _, rfl⟩
  case round =>
    obtain ⟨rfl, hg, rfl⟩ := hrel
    go_wp2
    go_ret
    exact ⟨rfl, rfl⟩
set_option maxRecDepth 100000 in
theorem ahead_snoc {a : Nat} (h : Bu W e b g N (A ++ [a]) B) : Calls Tryd.prog 76 #[.pointer (some ⟨e, 0, none⟩)] W (Gives (.int .i64 ((fl A).length : Int)) W) := by
  obtain ⟨x, t, hx, hbx, hbt⟩ := enc8_form (pr_ch (h.pr a (by simp))).2
  have hl : fl ((A ++ [a]) ++ B) = fl A ++ (x :: t) ++ fl B := by rw [fl_app, fl_app, fl_one, hx]
  have hp : (fl (A ++ [a])).length = (fl A).length + t.length + 1 := by rw [fl_app, fl_one, hx]; simp; omega
  have c1 := h.c1
  rw [hp] at c1
  have KB := Lib.hid (fun i hi => begins_run h i hi)
  rw [hl] at KB
  have hg0 : ∀ j, j ≤ t.length → beg ((fl A ++ (x :: t) ++ fl B)[(fl A).length + j]!) = decide (j = 0) := by
    intro j hj
    rw [getElem!_pos _ _ (by simp; omega), List.getElem_append_left (by simp; omega), List.getElem_append_right (by omega)]
    rcases j with _ | j
    · simp [hbx]
    · simp only [Nat.add_sub_cancel_left, List.getElem_cons_succ]
      rw [hbt _ (List.getElem_mem _)]
      simp
  have HX := Lib.hid (And.intro hg0 (show ((fl A ++ (x :: t) ++ fl B)).length = (fl A).length + t.length + 1 + (fl B).length by simp; omega))
  have hle : (fl A).length + t.length + 1 ≤ 4096 := by have := h.lens; omega
  clear h hl hp hbx hbt hx hg0
  generalize (fl A ++ (x :: t) ++ fl B) = L at *
  generalize (fl A).length = m at *
  generalize t.length = k at *
  obtain ⟨q, hq⟩ : ∃ q, q = m + k := ⟨_, rfl⟩
  rw [← hq] at c1 hle
  have HQ := Lib.hid hq
  have hm := max_zero q
  rw [Int.natCast_add] at c1
  have hn : IntKind.i64.wrap ((q : Int) + 1 - 1) = (q : Int) := by rw [IntKind.wrap_i64]; omega
  clear hq
  go_enter Tryd.func76, Tryd.ntmps76
  go_wp2
  go_loopg [3] (q + 1) (fun gk vi wr => ∃ i : Nat, vi = .int .i64 (i : Int) ∧ i ≤ q ∧ i ≤ gk ∧ Aside (wr = W ∧ m ≤ i))
  case atStart => exact ⟨q, rfl, Nat.le_refl _, by omega, rfl, by have := HQ.out; omega⟩
  case round =>
    obtain ⟨i, rfl, hi, hg, HS⟩ := hrel
    obtain rfl : wr = W := HS.out.1
    rcases i with _ | i
    · have hz : m = 0 := by have := HS.out.2; omega
      go_wp2
      go_ret
      subst hz
      exact ⟨rfl, rfl⟩
    · have hpos : (0 : Int) < ((i + 1 : Nat) : Int) := by omega
      have K := KB.out (i + 1) (by have := HX.out.2; have := HQ.out; omega)
      have hbi := HX.out.1 (i + 1 - m) (by have := HQ.out; omega)
      rw [show m + (i + 1 - m) = i + 1 by have := HS.out.2; omega] at hbi
      rw [hbi] at K
      have hw : IntKind.i64.wrap (((i + 1 : Nat) : Int) - 1) = (i : Int) := by rw [IntKind.wrap_i64]; omega
      by_cases hd : i + 1 - m = 0
      · have hde : decide (i + 1 - m = 0) = true := by simp [hd]
        rw [hde] at K
        have HK := Lib.hid K
        have HD : Aside (i + 1 = m) := by have := HS.out.2; show i + 1 = m; omega
        clear K hbi hd hde
        go_wp2_with fail
        refine HK.out.mono ?_
        rintro _ _ ⟨rfl, rfl⟩
        go_wp2
        go_ret
        rw [← HD.out]
        exact ⟨rfl, rfl⟩
      · have hde : decide (i + 1 - m = 0) = false := by simp [hd]
        rw [hde] at K
        have HK := Lib.hid K
        have HD : Aside (m ≤ i) := by have := HS.out.2; show m ≤ i; omega
        clear K hbi hd hde
        go_wp2_with fail
        refine HK.out.mono ?_
        rintro _ _ ⟨rfl, rfl⟩
        go_wp2
        go_roundg i
        case measure => omega
        case rel => exact ⟨i, rfl, by omega, by omega, rfl, HD.out⟩
theorem ahead_run (h : Bu W e b g N A B) : Calls Tryd.prog 76 #[.pointer (some ⟨e, 0, none⟩)] W (Gives (.int .i64 ((fl A.dropLast).length : Int)) W) := by
  rcases snoc_cases A with rfl | ⟨A', a, rfl⟩
  · exact ahead_nil h
  · rw [dl_snoc]
    exact ahead_snoc h

/-- Len in a drawn region. -/
theorem blen_q (h : Ar W b g N (fl (A ++ B))) (q : Nat) : Calls Tryd.prog 27 #[.pointer (some ⟨b, 0, none⟩)] (W.drewN q) fun e w' => e = .returned (.int .i64 ((fl (A ++ B)).length : Int)) ∧ ∃ m, w' = W.drewN m :=
  (len_cl (h.stays (Stp.drewN [] W q))).mono fun _ _ ⟨h1, h2⟩ => ⟨h1, q, h2⟩
set_option maxRecDepth 100000 in
theorem behind_nil (h : Bu W e b g N A []) : Calls Tryd.prog 77 #[.pointer (some ⟨e, 0, none⟩)] W (Says (.int .i64 ((fl A).length : Int)) W) := by
  have c0 := h.c0
  have c1 := h.c1
  have KL := blen_q h.ar
  have KM : ∀ q, Calls Tryd.prog 27 #[.pointer (some ⟨b, 0, none⟩)] (W.drewN q) (Gives (.int .i64 ((fl (A ++ [])).length : Int)) (W.drewN q)) := fun q => len_cl (h.ar.stays (Stp.drewN [] W q))
  have HC : Aside (∀ q, (W.drewN q).cell? ⟨e, 0, none⟩ = some (.pointer (some ⟨b, 0, none⟩))) := fun q => (h.stays (Stp.drewN [] W q)).c0
  have hle : (fl A).length ≤ 4096 := by have := h.lens; omega
  rw [List.append_nil] at KL KM
  have KL := Lib.hid KL
  have KM := Lib.hid KM
  clear h
  generalize (fl A).length = m at *
  have hw : IntKind.i64.wrap ((m : Int) + 1) = ((m + 1 : Nat) : Int) := by rw [IntKind.wrap_i64]; omega
  go_enter Tryd.func77, Tryd.ntmps77
  go_wp2_with fail
  go_quiet ((go_at_call 27; exact KL.out _))
  clear c0 c1
  have c0 := HC.out nq
  have K := Lib.hid (KM.out nq)
  clear KL KM HC
  go_wp2_with fail
  go_loopg [3] 1 (fun gk vi wr => vi = .int .i64 (m : Int) ∧ 0 ≤ gk ∧ wr = W.drewN nq)
  case atStart => exact ⟨rfl, Nat.zero_le _, rfl⟩
  case round =>
    obtain ⟨rfl, hg, rfl⟩ := hrel
    go_wp2_with fail
    refine K.out.mono ?_
    rintro _ _ ⟨rfl, rfl⟩
    go_wp2
    go_ret
    exact ⟨rfl, _, rfl⟩
set_option maxRecDepth 100000 in
theorem behind_cons {c : Nat} (h : Bu W e b g N A (c :: B)) : Calls Tryd.prog 77 #[.pointer (some ⟨e, 0, none⟩)] W (Says (.int .i64 ((fl (A ++ [c])).length : Int)) W) := by
  obtain ⟨x, t, hx, hbx, hbt⟩ := enc8_form (pr_ch (h.pr c (by simp))).2
  have hl : fl (A ++ (c :: B)) = fl A ++ (x :: t) ++ fl B := by rw [fl_app, fl_cons, hx, List.append_assoc]
  have hp : (fl (A ++ [c])).length = (fl A).length + t.length + 1 := by rw [fl_app, fl_one, hx]; simp; omega
  rw [hp]
  have c0 := h.c0
  have c1 := h.c1
  have KL := blen_q h.ar
  have KM : ∀ q, Calls Tryd.prog 27 #[.pointer (some ⟨b, 0, none⟩)] (W.drewN q) (Gives (.int .i64 ((fl (A ++ (c :: B))).length : Int)) (W.drewN q)) := fun q => len_cl (h.ar.stays (Stp.drewN [] W q))
  have KB := Lib.hid (fun q i hi => begins_run (h.stays (Stp.drewN [] W q)) i hi)
  have HC : Aside (∀ q, (W.drewN q).cell? ⟨e, 0, none⟩ = some (.pointer (some ⟨b, 0, none⟩))) := fun q => (h.stays (Stp.drewN [] W q)).c0
  have hg0 : ∀ j, j < t.length → beg ((fl A ++ (x :: t) ++ fl B)[(fl A).length + 1 + j]!) = false := by
    intro j hj
    rw [getElem!_pos _ _ (by simp; omega), List.getElem_append_left (by simp; omega), List.getElem_append_right (by omega)]
    have e1 : (fl A).length + 1 + j - (fl A).length = j + 1 := by omega
    simp only [e1, List.getElem_cons_succ]
    exact hbt _ (List.getElem_mem _)
  have hg1 : (fl A).length + 1 + t.length < (fl A ++ (x :: t) ++ fl B).length → beg ((fl A ++ (x :: t) ++ fl B)[(fl A).length + 1 + t.length]!) = true := by
    intro hj
    rcases B with _ | ⟨d, B⟩
    · simp [fl] at hj
      omega
    · obtain ⟨y, u, hy, hby, hbu⟩ := enc8_form (pr_ch (h.pr d (by simp))).2
      rw [getElem!_pos (fl A ++ (x :: t) ++ fl (d :: B)) _ hj, List.getElem_append_right (by simp; omega)]
      have e1 : (fl A).length + 1 + t.length - (fl A ++ (x :: t)).length = 0 := by simp; omega
      have e2 : fl (d :: B) = y :: (u ++ fl B) := by rw [fl_cons, hy]; rfl
      simp only [e1, e2, List.getElem_cons_zero]
      exact hby
  rw [hl] at KL KM KB
  have hlen : (fl A ++ (x :: t) ++ fl B).length = (fl A).length + t.length + 1 + (fl B).length := by simp; omega
  have hle : (fl A).length + t.length + 1 + (fl B).length ≤ 4096 := by
    have h1 := h.lens
    rw [hl, hlen] at h1
    omega
  have HX := Lib.hid (And.intro hg0 (And.intro hg1 hlen))
  have KL := Lib.hid KL
  have KM := Lib.hid KM
  clear h hl hp hbx hbt hx hg0 hg1
  generalize (fl A ++ (x :: t) ++ fl B) = L at *
  generalize (fl A).length = m at *
  generalize t.length = k at *
  generalize (fl B).length = r at *
  obtain ⟨M, hM⟩ : ∃ M, M = L.length := ⟨_, rfl⟩
  rw [← hM] at KL KM
  have hMM : M = m + k + 1 + r := by rw [hM]; exact hlen
  clear hlen
  have hw : IntKind.i64.wrap ((m : Int) + 1) = ((m + 1 : Nat) : Int) := by rw [IntKind.wrap_i64]; omega
  have hm : ¬ (M : Int) < (m : Int) + 1 := by omega
  have HM := Lib.hid (And.intro hMM hM)
  clear hM hMM
  go_enter Tryd.func77, Tryd.ntmps77
  go_wp2_with fail
  go_quiet ((go_at_call 27; exact KL.out _))
  clear c0 c1
  have c0 := HC.out nq
  have K := Lib.hid (KM.out nq)
  have KB := Lib.hid (KB.out nq)
  clear KL KM HC
  go_wp2_with fail
  go_loopg [3] (k + 1) (fun gk vi wr => ∃ j : Nat, vi = .int .i64 ((m + 1 + j : Nat) : Int) ∧ j ≤ k ∧ k - j ≤ gk ∧ wr = W.drewN nq)
  case atStart => exact ⟨0, rfl, Nat.zero_le _, by omega, rfl⟩
  case round =>
    obtain ⟨j, rfl, hj, hg, rfl⟩ := hrel
    by_cases hlt : m + 1 + j < M
    · have hw : IntKind.i64.wrap (((m + 1 + j : Nat) : Int) + 1) = ((m + 1 + (j + 1) : Nat) : Int) := by rw [IntKind.wrap_i64]; omega
      have hlt2 : ((m + 1 + j : Nat) : Int) < (M : Int) := by omega
      have KK := KB.out (m + 1 + j) (by have := HM.out.2; omega)
      by_cases hd : j < k
      · rw [HX.out.1 j hd] at KK
        have HK := Lib.hid KK
        have HD : Aside (j < k) := hd
        clear KK hd
        go_wp2_with fail
        refine K.out.mono ?_
        rintro _ _ ⟨rfl, rfl⟩
        go_wp2_with fail
        refine HK.out.mono ?_
        rintro _ _ ⟨rfl, rfl⟩
        go_wp2
        go_roundg (k - (j + 1))
        case measure => have := HD.out; omega
        case rel => exact ⟨j + 1, rfl, HD.out, by omega, rfl⟩
      · have hjk : j = k := by omega
        rw [show m + 1 + j = m + 1 + k by omega] at KK
        rw [HX.out.2.1 (by have := HM.out.2; omega)] at KK
        have HK := Lib.hid KK
        have HD : Aside (j = k) := hjk
        clear KK hd hjk
        obtain rfl := HD.out
        go_wp2_with fail
        refine K.out.mono ?_
        rintro _ _ ⟨rfl, rfl⟩
        go_wp2_with fail
        refine HK.out.mono ?_
        rintro _ _ ⟨rfl, rfl⟩
        go_wp2
        go_ret
        exact ⟨congrArg (fun z : Int => Ending.returned (.int .i64 z)) (show (m : Int) + 1 + (j : Int) = (m : Int) + (j : Int) + 1 by omega), _, rfl⟩
    · have hlt2 : ¬ ((m + 1 + j : Nat) : Int) < (M : Int) := by omega
      have HD : Aside (m + 1 + j = m + k + 1) := by have := HM.out.1; show m + 1 + j = m + k + 1; omega
      go_wp2_with fail
      refine K.out.mono ?_
      rintro _ _ ⟨rfl, rfl⟩
      go_wp2
      go_ret
      exact ⟨congrArg (fun z : Int => Ending.returned (.int .i64 z)) (show (m : Int) + 1 + (j : Int) = (m : Int) + (k : Int) + 1 by have := HD.out; omega), _, rfl⟩
theorem behind_run (h : Bu W e b g N A B) : Calls Tryd.prog 77 #[.pointer (some ⟨e, 0, none⟩)] W (Says (.int .i64 ((fl (A ++ B.take 1)).length : Int)) W) := by
  rcases B with _ | ⟨c, B⟩
  · simpa using behind_nil h
  · simpa using behind_cons h
theorem count_run (h : Bu W e b g N A B) (n : Nat) (hn : n ≤ (fl (A ++ B)).length) : Calls Tryd.prog 51 #[.pointer (some ⟨e, 0, none⟩), .int .i64 (n : Int)] W (Gives (.int .i64 (cnt ((fl (A ++ B)).take n) : Int)) W) := by
  have KB := Lib.hid (fun i hi => begins_run h i hi)
  have hle : (fl (A ++ B)).length ≤ 4096 := by have := h.lens; omega
  clear h
  generalize fl (A ++ B) = L at *
  have HL := Lib.hid (And.intro hn hle)
  have hn1 : n ≤ 4096 := by omega
  clear hn hle
  go_enter Tryd.func51, Tryd.ntmps51
  go_wp2
  go_loopg [5, 6, 8] n (fun gk vb vi vh wr => ∃ k c : Nat, vb = .int .i64 (c : Int) ∧ vh = .int .i64 (k : Int) ∧ k ≤ n ∧ n - k ≤ gk ∧ Aside (wr = W ∧ c = cnt (L.take k) ∧ c ≤ 4096))
  case atStart => exact ⟨0, 0, rfl, rfl, Nat.zero_le _, by omega, rfl, rfl, by omega⟩
  case round =>
    obtain ⟨k, c, rfl, rfl, hk, hg, HS⟩ := hrel
    obtain rfl : wr = W := HS.out.1
    have hw : IntKind.i64.wrap ((k : Int) + 1) = ((k + 1 : Nat) : Int) := by rw [IntKind.wrap_i64]; omega
    by_cases hlt : k < n
    · have hlt2 : (k : Int) < (n : Int) := by omega
      have K := KB.out k (by have := HL.out; omega)
      have hc := cnt_take (l := L) (i := k) (by have := HL.out; omega)
      have hcl := cnt_le (L.take (k + 1))
      have hcl2 : cnt (L.take (k + 1)) ≤ 4096 := by simp at hcl; omega
      have hwc : IntKind.i64.wrap ((c : Int) + 1) = ((c + 1 : Nat) : Int) := by have := HS.out.2.2; rw [IntKind.wrap_i64]; omega
      by_cases hd : beg (L[k]!) = true
      · rw [hd] at K
        have HK := Lib.hid K
        have HD : Aside (c + 1 = cnt (L.take (k + 1)) ∧ c + 1 ≤ 4096) := by
          rw [hc, if_pos hd, ← HS.out.2.1] at hcl2
          exact ⟨by rw [hc, if_pos hd, ← HS.out.2.1], hcl2⟩
        clear K hd hc hcl hcl2
        go_wp2_with fail
        refine HK.out.mono ?_
        rintro _ _ ⟨rfl, rfl⟩
        go_wp2
        go_roundg (n - (k + 1))
        case measure => omega
        case rel => exact ⟨k + 1, c + 1, rfl, rfl, by omega, by omega, rfl, HD.out.1, HD.out.2⟩
      · have hdf : beg (L[k]!) = false := by simpa using hd
        rw [hdf] at K
        have HK := Lib.hid K
        have HD : Aside (c = cnt (L.take (k + 1)) ∧ c ≤ 4096) := by
          rw [hc, if_neg hd, ← HS.out.2.1] at hcl2
          exact ⟨by rw [hc, if_neg hd, ← HS.out.2.1]; rfl, hcl2⟩
        clear K hd hdf hc hcl hcl2
        go_wp2_with fail
        refine HK.out.mono ?_
        rintro _ _ ⟨rfl, rfl⟩
        go_wp2
        go_roundg (n - (k + 1))
        case measure => omega
        case rel => exact ⟨k + 1, c, rfl, rfl, by omega, by omega, rfl, HD.out.1, HD.out.2⟩
    · have hlt2 : ¬ (k : Int) < (n : Int) := by omega
      obtain rfl : k = n := by omega
      go_wp2
      go_ret
      rw [HS.out.2.1]
      exact ⟨rfl, rfl⟩
end
end Go.Proofs.YtombkdbojdhodaaDoor
