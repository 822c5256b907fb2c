/-
  The registry's calls New, Make, Get and Names.
-/
import Derived.Test.YtmhecgidhdbcgaaReg
import Derived.Lib.Strings
namespace Go.Proofs.Ytmhecgidhdbcgaa
open Go.RowKit Go.Lib Go.Maps
set_option linter.unusedVariables false

theorem emp_iff (s : ByteArray) : s.toList.isEmpty = true ↔ s = ⟨#[]⟩ := by
  rw [Go.Lib.toList_data]
  constructor
  · intro h
    exact ByteArray.ext (Array.toList_inj.1 (by simpa using h))
  · intro h
    subst h
    rfl
theorem emp_no {s : ByteArray} (h : s ≠ ⟨#[]⟩) : s.toList.isEmpty = false := by
  cases e : s.toList.isEmpty
  · rfl
  · exact absurd ((emp_iff s).1 e) h
theorem one_str (w : World) (s : ByteArray) : ∀ (j : Nat) (u : Value), ([s].map Value.string)[j]? = some u → (w.alloc (.cells #[.string s] 9)).cell? ((⟨w.heap.size, 0, none⟩ : Addr).add j) = some u := fun j u hj => by
  rcases j with _ | j
  · simp only [List.map_cons, List.map_nil, List.getElem?_cons_zero, Option.some.injEq] at hj
    rw [← hj, addr_add, cell_of_row _ w.heap.size _ _ _ _ (heap_alloc_new w _)]
    rfl
  · simp at hj

/-- What New answers. -/
def Newr (w : World) (e : Ending) (w' : World) : Prop := ∃ r F, e = .returned (.pointer (some ⟨r, 0, none⟩)) ∧ Rg w' F r [] ∧ Stp [] w F w'
theorem newr_run (w : World) : Calls Try.prog 8 #[] w (Newr w) := by
  have hmm := @run_makeMap Try.prog
  go_enter Try.func8, Try.ntmps8
  go_wp2
  go_ret
  have hm := World.ownsMap_made w Try.prog 9 pEl
  refine ⟨w.heap.size + 1, [w.heap.size, w.heap.size + 1], rfl, ⟨w.heap.size, .slice none 0 0, .map [], ?_, SOwn.nil _ _, ?_, Like.empty, (fun x h => by cases h), List.Pairwise.nil, (fun x h => by cases h), by simp, by simp, by simp, (fun k h => by cases h), (fun x h => by cases h)⟩, ?_⟩
  · have := heap_alloc_new (w.alloc (.map #[] 0)) (.cells #[.slice none 0 0, .map (some w.heap.size)] 58)
    rw [World.size_alloc] at this
    exact this
  · exact hm.alloc _
  · refine ⟨rfl, rfl, rfl, by simp only [World.size_alloc]; omega, fun k hk _ => ?_, fun k hk => .inr ?_⟩
    · exact (Below.heap_alloc _ _ _ (by rw [World.size_alloc]; omega)).trans (Below.heap_alloc w _ k hk)
    · simp at hk
      omega

section
variable {W : World} {F : List Nat} {r m : Nat} {v : Value} {D : DataW Unit} {L : List Ent}
theorem get_nil (s : ByteArray) (W : World) : Calls Try.prog 13 #[.pointer none, .string s] W (Gives (.tuple #[.pointer none, .int .i64 1]) W) := by
  go_enter Try.func13, Try.ntmps13
  go_wp2
  go_ret2
  exact ⟨rfl, rfl⟩
theorem get_yes (h : Rx W F r m v D L) {x : Ent} (hx : x ∈ L) : Calls Try.prog 13 #[.pointer (some ⟨r, 0, none⟩), .string x.name] W (Gives (.tuple #[.pointer (some ⟨x.b, 0, none⟩), .int .i64 0]) W) := by
  have c1 := h.c1
  have k := look_yes_ok h.map h.like hx (h.nm x hx)
  clear h hx
  go_enter Try.func13, Try.ntmps13
  go_wp2
  go_ret2
  exact ⟨rfl, rfl⟩
theorem get_no (h : Rx W F r m v D L) {s : ByteArray} (hn : ∀ x ∈ L, x.name ≠ s) (hs : s.size ≤ maxLen) : Calls Try.prog 13 #[.pointer (some ⟨r, 0, none⟩), .string s] W (Gives (.tuple #[.pointer none, .int .i64 6]) W) := by
  have c1 := h.c1
  have k := look_no_ok h.map h.like hn hs
  clear h hn
  go_enter Try.func13, Try.ntmps13
  go_wp2
  go_ret2
  exact ⟨rfl, rfl⟩

/-- Why there may be no more arena under a name (0: there may). -/
def refuse (L : List Ent) (s : ByteArray) : Int := if s = ⟨#[]⟩ then 2 else if L.any (fun x => decide (x.name = s)) then 11 else if 16 ≤ L.length then 4 else 0
theorem refuses_nil (s : ByteArray) (W : World) : Calls Try.prog 26 #[.pointer none, .string s] W (Gives (.int .i64 1) W) := by
  go_enter Try.func26, Try.ntmps26
  go_wp2
  go_ret
  exact ⟨rfl, rfl⟩
theorem refuses_run (h : Rx W F r m v D L) (s : ByteArray) (hs : s.size ≤ maxLen) : Calls Try.prog 26 #[.pointer (some ⟨r, 0, none⟩), .string s] W (Gives (.int .i64 (refuse L s)) W) := by
  have c0 := h.c0
  have c1 := h.c1
  by_cases hany : ∃ x ∈ L, x.name = s
  · obtain ⟨x, hx, rfl⟩ := hany
    have k := look_yes_ok h.map h.like hx (h.nm x hx)
    have e1 : L.any (fun y => decide (y.name = x.name)) = true := List.any_eq_true.2 ⟨x, hx, by simp⟩
    by_cases he : x.name = ⟨#[]⟩
    · have e2 : refuse L x.name = 2 := by simp [refuse, he]
      rw [e2]
      rw [he] at k ⊢
      clear h hx e1 e2 he hs
      go_enter Try.func26, Try.ntmps26
      go_wp2
      go_ret
      exact ⟨rfl, rfl⟩
    · have e2 : refuse L x.name = 11 := by simp [refuse, he, e1]
      rw [e2]
      clear h hx e1 e2 hs
      generalize x.name = s at *
      have he2 := emp_no he
      go_enter Try.func26, Try.ntmps26
      go_wp2
      go_ret
      exact ⟨rfl, rfl⟩
  · have hn : ∀ x ∈ L, x.name ≠ s := fun x hx e => hany ⟨x, hx, e⟩
    have k := look_no_ok h.map h.like hn hs
    have e1 : L.any (fun y => decide (y.name = s)) = false := List.any_eq_false.2 (fun y hy => by simpa using hn y hy)
    by_cases he : s = ⟨#[]⟩
    · have e2 : refuse L s = 2 := by simp [refuse, he]
      rw [e2]
      subst he
      clear h hn e1 e2 hs hany
      go_enter Try.func26, Try.ntmps26
      go_wp2
      go_ret
      exact ⟨rfl, rfl⟩
    · have he2 := emp_no he
      obtain ⟨a, cap, hv, _⟩ := h.row.form
      rw [List.length_map] at hv
      by_cases hl : 16 ≤ L.length
      · have e2 : refuse L s = 4 := by simp only [refuse, if_neg he, e1, if_pos hl]; rfl
        rw [e2]
        have hl2 : (16 : Int) ≤ (L.length : Int) := by omega
        subst hv
        clear h hn e1 e2 hs hany he hl
        go_enter Try.func26, Try.ntmps26
        go_wp2
        go_ret
        exact ⟨rfl, rfl⟩
      · have e2 : refuse L s = 0 := by simp only [refuse, if_neg he, e1, if_neg hl]; rfl
        rw [e2]
        have hl2 : ¬ (16 : Int) ≤ (L.length : Int) := by omega
        subst hv
        clear h hn e1 e2 hs hany he hl
        go_enter Try.func26, Try.ntmps26
        go_wp2
        go_ret
        exact ⟨rfl, rfl⟩
theorem make_nil (s : ByteArray) (n : Int) (W : World) : Calls Try.prog 10 #[.pointer none, .string s, .int .i64 n] W (Gives (.tuple #[.pointer none, .int .i64 1]) W) := by
  have K1 := Lib.hid (refuses_nil s W)
  go_enter Try.func10, Try.ntmps10
  go_wp2_with fail
  refine K1.out.mono ?_
  rintro _ _ ⟨rfl, rfl⟩
  go_wp2
  go_ret2
  exact ⟨rfl, rfl⟩
theorem make_no (h : Rx W F r m v D L) (s : ByteArray) (hs : s.size ≤ maxLen) (n : Int) (c : Int) (hc : refuse L s = c) (hne : c ≠ 0) : Calls Try.prog 10 #[.pointer (some ⟨r, 0, none⟩), .string s, .int .i64 n] W (Gives (.tuple #[.pointer none, .int .i64 c]) W) := by
  have K1 := Lib.hid (refuses_run h s hs)
  rw [hc] at K1
  have hne2 : (c != 0) = true := by simpa using hne
  clear h hs hc
  go_enter Try.func10, Try.ntmps10
  go_wp2_with fail
  refine K1.out.mono ?_
  rintro _ _ ⟨rfl, rfl⟩
  go_wp2
  go_ret2
  exact ⟨rfl, rfl⟩
theorem make_out (h : Rx W F r m v D L) (s : ByteArray) (hs : s.size ≤ maxLen) (n : Int) (hc : refuse L s = 0) (hn : n < 1 ∨ 4096 < n) : Calls Try.prog 10 #[.pointer (some ⟨r, 0, none⟩), .string s, .int .i64 n] W (Gives (.tuple #[.pointer none, .int .i64 3]) W) := by
  have K1 := Lib.hid (refuses_run h s hs)
  rw [hc] at K1
  have K2 := Lib.hid (new_no n W hn)
  clear h hs hc hn
  go_enter Try.func10, Try.ntmps10
  go_wp2_with fail
  refine K1.out.mono ?_
  rintro _ _ ⟨rfl, rfl⟩
  go_wp2_with fail
  refine K2.out.mono ?_
  rintro _ _ ⟨rfl, rfl⟩
  go_wp2
  go_ret2
  exact ⟨rfl, rfl⟩
/-- What Make of one more answers. -/
def Made (W : World) (F : List Nat) (r : Nat) (L : List Ent) (s : ByteArray) (n : Nat) (e : Ending) (w' : World) : Prop :=
  ∃ b g F', e = .returned (.tuple #[.pointer (some ⟨b, 0, none⟩), .int .i64 0]) ∧ Rg w' F' r (L ++ [⟨s, b, g, n, []⟩]) ∧ Stp F W F' w' ∧ W.heap.size ≤ b ∧ W.heap.size ≤ g
theorem refuse_zero {L : List Ent} {s : ByteArray} (h : refuse L s = 0) : s ≠ ⟨#[]⟩ ∧ (∀ x ∈ L, x.name ≠ s) ∧ L.length < 16 := by
  unfold refuse at h
  split at h
  · omega
  · rename_i h1
    split at h
    · omega
    · rename_i h2
      split at h
      · omega
      · rename_i h3
        refine ⟨h1, fun x hx e => h2 (List.any_eq_true.2 ⟨x, hx, by simpa using e⟩), by omega⟩
set_option maxHeartbeats 1000000 in
theorem make_yes (h : Rx W F r m v D L) (s : ByteArray) (hs : s.size ≤ maxLen) (n : Nat) (hc : refuse L s = 0) (h1 : 1 ≤ n) (h2 : n ≤ 4096) : Calls Try.prog 10 #[.pointer (some ⟨r, 0, none⟩), .string s, .int .i64 (n : Int)] W (Made W F r L s n) := by
  have K1 := Lib.hid (refuses_run h s hs)
  obtain ⟨_, hno, htop⟩ := refuse_zero hc
  rw [hc] at K1
  have K2 := Lib.hid (new_run n W h1 h2)
  have H := Lib.hid (And.intro h hno)
  clear h hc hno
  go_enter Try.func10, Try.ntmps10
  go_wp2_with fail
  refine K1.out.mono ?_
  rintro _ W ⟨rfl, rfl⟩
  go_wp2_with fail
  refine K2.out.mono ?_
  rintro _ w1 ⟨b, g, rfl, hb, hg, ha, st1⟩
  clear K1 K2
  have X1 := H.out.1.stays st1
  have c0 := X1.c0
  have c1 := X1.c1
  have f0 := X1.f0
  obtain ⟨a0, cap0, hv, _⟩ := X1.row.form
  rw [List.length_map] at hv
  have HX := Lib.hid (And.intro X1 (And.intro ha (And.intro st1 (And.intro hb (And.intro hg hv)))))
  clear X1 ha st1 hb hg
  subst hv
  go_wp2_with (first
    | (at_builtin
       refine wpList_appS rfl (.tmp 29) (.tmp 31) rfl 0 (.slice a0 L.length cap0) (L.map Ent.name) rfl (World.ownsRow.alloc HX.out.1.row _) ⟨w1.heap.size, 0, none⟩ 1 1 [s] rfl rfl (one_str w1 s) (by simp; omega) (Nat.zero_le _) ?_
       intro v2 w2 ho2 hg2 hv2
       obtain ⟨a2, cap2, hf2, _⟩ := ho2.form
       rw [List.length_append, List.length_map, List.length_cons, List.length_nil] at hf2
       have hst2 : Stp ((Value.slice a0 L.length cap0).ownBlock.toList) (w1.alloc (.cells #[.string s] 9)) [] w2 := Stp.of_grown hg2 (fun k e => by rw [e]; simp) (fun _ h => by cases h)
       have ho : w2.heap[r]? = some (.cells #[.slice a0 L.length cap0, .map (some m)] 58 (0, 0)) :=
         (hst2.block r (by have := HX.out.1.lt; rw [World.size_alloc]; omega) (fun e => HX.out.1.row_ne (by simpa using e))).trans ((Below.heap_alloc w1 _ r HX.out.1.lt).trans HX.out.1.obj)
       have c0' : w2.cell? ⟨r, 0, none⟩ = some (.slice a0 L.length cap0) := by rw [cell_of_row w2 r 0 _ _ _ ho]; rfl
       have c1' : w2.cell? ⟨r, 1, none⟩ = some (.map (some m)) := by rw [cell_of_row w2 r 1 _ _ _ ho]; rfl
       have f0' : w2.frozen? ⟨r, 0, none⟩ = false := frozen_of_row w2 r 0 _ _ ho
       have hmp : w2.ownsMap Try.prog 9 pEl m L.length D := owns_stp (HX.out.1.map.alloc _) hst2 (fun e => HX.out.1.map_row (by simpa using e))
       have HY := Lib.hid (And.intro ho2 (And.intro hst2 (And.intro hv2 (And.intro ho hmp))))
       subst hf2
       clear ho2 hg2 hv2 hst2 ho hmp)
    | (at_mapUpdate
       refine wpList_mapUpdate_own _ rfl _ _ _ 56 rfl 9 29 lawS Try.underlying56 pEl m L.length D rfl (owns_stp HY.out.2.2.2.2 (Stp.setCell (F := [r]) _ _ (by simp)) (by simpa using HX.out.1.map_ne.symm)) (by unfold maxLen; omega) (.string s) (.pointer (some ⟨b, 0, none⟩)) (kS s) rfl rfl (WideMaps.keyOf_string_mk Try.underlying9 hs) _ [] (pEl_mk b) ?_
       intro w3 hown3 hg3))
  go_ret2
  obtain ⟨X1, ha, st1, hb, hg, hv⟩ := HX.out
  obtain ⟨ho2, hst2, hv2, hob, hmp⟩ := HY.out
  have hX := H.out.1
  have G0 : ∃ G, G = r :: m :: (Value.slice a0 L.length cap0).ownBlock.toList := ⟨_, rfl⟩
  obtain ⟨G, hG⟩ := G0
  have S : Stp G w1 G w3 := (Stp.alloc G w1 _).trans ((hst2.remake (F := G) (F' := G) (fun k hk => by rw [hG]; simp [hk]) (fun k hk => .inl hk)).trans
    ((Stp.setCell (F := G) w2 _ (by rw [hG]; simp)).trans (Stp.of_grown hg3 (fun k e => by cases e; rw [hG]; simp) (fun k hk => .inl hk))))
  have hGlt : ∀ k ∈ G, k < W.heap.size := fun k hk => by
    rw [hG] at hk
    rcases List.mem_cons.1 hk with e | hk
    · rw [e]; exact hX.lt
    · rcases List.mem_cons.1 hk with e | hk
      · rw [e]; exact hX.map.lt
      · exact (hX.row.lt k (by simpa using hk)).2
  have hGF : ∀ k ∈ G, k ∈ F := fun k hk => by
    rw [hG] at hk
    rcases List.mem_cons.1 hk with e | hk
    · rw [e]; exact hX.fr
    · rcases List.mem_cons.1 hk with e | hk
      · rw [e]; exact hX.fm
      · exact hX.fv k (by simpa using hk)
  have nr : (Value.slice a2 (L.length + 1) cap2).ownBlock ≠ some r := fun e => by
    obtain ⟨cur, hc⟩ := row_obj ho2 e
    rw [hob] at hc
    simp at hc
  have nm : (Value.slice a2 (L.length + 1) cap2).ownBlock ≠ some m := fun e => by
    obtain ⟨cur, hc⟩ := row_obj ho2 e
    obtain ⟨es, clock, hd⟩ := owns_obj hmp
    rw [hd] at hc
    simp at hc
  have s45 : Stp [r, m] w2 [] w3 := (Stp.setCell (F := [r, m]) w2 _ (by simp)).trans (Stp.of_grown hg3 (fun k e => by cases e; simp) (fun k hk => by cases hk))
  refine ⟨b, g, F ++ [b, g] ++ (Value.slice a2 (L.length + 1) cap2).ownBlock.toList, rfl, ⟨m, .slice a2 (L.length + 1) cap2, D.put (kS s) (.lit (.int .u64 (b : Int))), ?_⟩, ?_, hb, hg⟩
  · refine Rx.put hX (v' := .slice a2 (L.length + 1) cap2) H.out.2 hs htop ?_ ?_ hown3 hb hg ?_ (fun x hx => ?_) (fun k hk => by simp [hk]) (fun k hk => by simp [hk]) (by simp) (by simp)
    · refine (hg3.block r (by have := (Array.getElem?_eq_some_iff.1 hob).1; simpa [World.setCell] using this) (by simpa using X1.map_ne)).trans ?_
      exact heap_setCell_same w2 r 0 _ _ _ hob
    · exact ho2.other s45 (fun k hk => by
        simp only [List.mem_cons, List.not_mem_nil, or_false, not_or]
        exact ⟨fun e => nr (by rw [hk, e]), fun e => nm (by rw [hk, e])⟩)
    · exact ha.other S (fun e => by have := hGlt b e; omega) (fun e => by have := hGlt g e; omega)
    · obtain ⟨⟨n1, n2⟩, ⟨n3, n4⟩, n5, n6⟩ := X1.ar_ne hx
      refine (X1.ars x hx).other S (fun e => ?_) (fun e => ?_)
      · rw [hG] at e
        rcases List.mem_cons.1 e with q | e
        · exact n1 q.symm
        · rcases List.mem_cons.1 e with q | e
          · exact n3 q.symm
          · exact n5 (by simpa using e)
      · rw [hG] at e
        rcases List.mem_cons.1 e with q | e
        · exact n2 q.symm
        · rcases List.mem_cons.1 e with q | e
          · exact n4 q.symm
          · exact n6 (by simpa using e)
  · refine (st1.widen (F := F) (G := F ++ [b, g]) (fun k hk => by simpa using hk)).trans (S.remake (fun k hk => by simp [hGF k hk]) (fun k hk => ?_))
    rcases List.mem_append.1 hk with hk | hk
    · exact .inl hk
    · rcases hv2 with e | e
      · rw [e] at hk
        exact .inl (by simp [hX.fv k (by simpa using hk)])
      · rw [e] at hk
        simp at hk
        exact .inr (by omega)
/-- What Names answers: a list of the caller's own. -/
def Named (W : World) (l : List ByteArray) (e : Ending) (w' : World) : Prop := ∃ v', e = .returned v' ∧ SOwn w' W.heap.size v' l ∧ Stp [] W [] w'
theorem names_nil (W : World) : Calls Try.prog 15 #[.pointer none] W (Gives (.slice none 0 0) W) := by
  go_enter Try.func15, Try.ntmps15
  go_wp2
  go_ret
  exact ⟨rfl, rfl⟩
theorem SOwn.new (w : World) : SOwn (w.alloc (.cells #[] 9)) w.heap.size (.slice (some ⟨w.heap.size, 0, none⟩) 0 0) [] :=
  ⟨by simp, .inr ⟨w.heap.size, 0, #[], rfl, Nat.le_refl _, heap_alloc_new w _, by simp, by simp [maxLen], by simp, by simp⟩⟩
theorem clone_run {l : List ByteArray} (h : SOwn W 0 v l) (hl : l.length ≤ 100000) : Calls Try.prog 28 #[v] W (Named W l) := by
  obtain ⟨a, cap, rfl, hnil, _, _, hcells⟩ := h.form
  rcases a with _ | ad
  · obtain ⟨rfl, rfl⟩ := hnil rfl
    have hq := fun w => run_eql_slice_nil (P := Try.prog) w 39 9 none 0 0 0 0 Try.underlying39
    clear h hcells hnil
    go_enter Try.func28, Try.ntmps28
    go_wp2
    go_ret
    exact ⟨_, rfl, SOwn.nil _ _, Stp.refl _ _⟩
  · obtain ⟨g, rfl, _, hg, _, hc⟩ := hcells ad rfl
    have hcs : ∀ (j : Nat) (u : Value), (l.map Value.string)[j]? = some u → (W.alloc (.cells #[] 9)).cell? ((⟨g, 0, none⟩ : Addr).add j) = some u := fun j u hj => by
      have hjl : j < l.length := by
        rcases Nat.lt_or_ge j l.length with e | e
        · exact e
        · rw [List.getElem?_eq_none (by simpa using e)] at hj
          cases hj
      rw [addr_add, Nat.zero_add, (Stp.alloc [] W (.cells #[] 9)).cell (a := ⟨g, j, none⟩) hg (fun h => by cases h), hc j hjl, ← hj, getElem!_pos l j hjl]
      simp [hjl]
    have HC := Lib.hid hcs
    have hq := fun w => run_eql_slice_nil (P := Try.prog) w 39 9 (some ⟨g, 0, none⟩) l.length cap 0 0 Try.underlying39
    have HN := Lib.hid (SOwn.new W)
    clear h hcells hnil hc hcs hg
    go_enter Try.func28, Try.ntmps28
    go_wp2_with (first
      | (at_builtin
         refine wpList_appS rfl (.tmp 5) (.tmp 6) rfl W.heap.size (.slice (some ⟨W.heap.size, 0, none⟩) 0 0) [] rfl HN.out ⟨g, 0, none⟩ cap l.length l rfl rfl HC.out (by simp; omega) (by simp) ?_
         intro v2 w2 ho2 hg2 hv2
         have H2 := Lib.hid (And.intro ho2 (And.intro hg2 hv2))
         clear ho2 hg2 hv2))
    go_ret
    obtain ⟨ho2, hg2, hv2⟩ := H2.out
    refine ⟨_, rfl, by simpa using ho2, ?_⟩
    refine ⟨hg2.os, hg2.tape, hg2.output, Nat.le_trans (by simp) hg2.size, fun k hk _ => ?_, fun _ h => by cases h⟩
    exact (hg2.block k (by rw [World.size_alloc]; omega) (fun e => by simp [Value.ownBlock] at e; omega)).trans (Below.heap_alloc W _ k hk)
theorem names_run (h : Rx W F r m v D L) : Calls Try.prog 15 #[.pointer (some ⟨r, 0, none⟩)] W (Named W (L.map Ent.name)) := by
  have c0 := h.c0
  have K := Lib.hid (clone_run h.row (by have := h.top; simp; omega))
  clear h
  go_enter Try.func15, Try.ntmps15
  go_wp2_with fail
  refine K.out.mono ?_
  rintro _ w1 ⟨v', rfl, h1, h2⟩
  go_wp2
  go_ret
  exact ⟨_, rfl, h1, h2⟩
end
end Go.Proofs.Ytmhecgidhdbcgaa
