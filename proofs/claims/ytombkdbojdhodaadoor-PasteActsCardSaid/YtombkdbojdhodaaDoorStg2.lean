/-
  A stage's calls: Drop, also a deferred one; Add.
-/
import Derived.Test.YtombkdbojdhodaaDoorStg
import Derived.Deep.RegionHeld3
namespace Go.Proofs.YtombkdbojdhodaaDoor
open Go.RowKit Go.Lib
set_option linter.unusedVariables false

/-- What Drop leaves. -/
def SDropped (s b g N : Nat) (W : World) (en : Ending) (w' : World) : Prop := en = .returned (.tuple #[]) ∧ Sg w' s b g N sv0 ∧ Stp [s, b, g] W [s, b, g] w'
section
variable {W : World} {s b g N : Nat} {t : Sv}
/-- Two stores behind the wipe. -/
theorem sg_dropped (h : Sg W s b g N t) {w1 : World} (ha : Ar w1 b g N []) (hs : Stp [b, g] W [b, g] w1) :
    w1.cell? ⟨s, 1, none⟩ = some (.bool t.bg) ∧ w1.frozen? ⟨s, 1, none⟩ = false ∧ (w1.setCell ⟨s, 1, none⟩ (.bool false)).cell? ⟨s, 2, none⟩ = some (.bool t.ov) ∧ (w1.setCell ⟨s, 1, none⟩ (.bool false)).frozen? ⟨s, 2, none⟩ = false ∧
      Sg ((w1.setCell ⟨s, 1, none⟩ (.bool false)).setCell ⟨s, 2, none⟩ (.bool false)) s b g N sv0 ∧ Stp [s, b, g] W [s, b, g] ((w1.setCell ⟨s, 1, none⟩ (.bool false)).setCell ⟨s, 2, none⟩ (.bool false)) := by
  have ho : w1.heap[s]? = some (.cells #[.pointer (some ⟨b, 0, none⟩), .bool t.bg, .bool t.ov] 74 (0, 0)) := (hs.block s h.lt.1 (by simp [h.sb, h.sg])).trans h.obj
  have ho2 := heap_setCell_same w1 s 1 _ _ (.bool false) ho
  have ho3 := heap_setCell_same (w1.setCell ⟨s, 1, none⟩ (.bool false)) s 2 _ _ (.bool false) ho2
  have q2 : Stp [s] w1 [s] (w1.setCell ⟨s, 1, none⟩ (.bool false)) := Stp.setCell (F := [s]) (a := ⟨s, 1, none⟩) w1 _ (by simp)
  have q3 : Stp [s] (w1.setCell ⟨s, 1, none⟩ (.bool false)) [s] ((w1.setCell ⟨s, 1, none⟩ (.bool false)).setCell ⟨s, 2, none⟩ (.bool false)) := Stp.setCell (F := [s]) (a := ⟨s, 2, none⟩) _ _ (by simp)
  have q := q2.trans q3
  refine ⟨by rw [cell_of_row w1 s 1 _ _ _ ho]; rfl, frozen_of_row w1 s 1 _ _ ho, by rw [cell_of_row _ s 2 _ _ _ ho2]; rfl, frozen_of_row _ s 2 _ _ ho2, ⟨ho3, ha.other q (by simpa using h.sb.symm) (by simpa using h.sg.symm), Pr.nil, fun _ => ⟨rfl, rfl⟩, h.sb, h.sg⟩, ?_⟩
  exact (hs.more (fun k hk => by simp at hk; simp; omega)).trans (q.more (fun k hk => by simp at hk; simp [hk]))
theorem drop_run (h : Sg W s b g N t) : Calls Tryd.prog 17 #[.pointer (some ⟨s, 0, none⟩)] W (SDropped s b g N W) := by
  have K := Lib.hid (wipe_run h.ar)
  have c0 := h.c0
  have H := Lib.hid h
  clear h
  go_enter Tryd.func17, Tryd.ntmps17
  go_wp2_with fail
  refine K.out.mono ?_
  rintro _ w1 ⟨rfl, ha, hs⟩
  obtain ⟨c1, f1, c2, f2, hsg, hst⟩ := sg_dropped H.out ha hs
  have HO := Lib.hid (And.intro hsg hst)
  clear ha hs K hsg hst
  go_wp2
  go_end0
  exact ⟨rfl, HO.out.1, HO.out.2⟩
theorem drop_d (h : Sg W s b g N t) (u : FrameMode) : CallsD Tryd.prog 17 #[.pointer (some ⟨s, 0, none⟩)] u W (fun e u' w' => u' = u ∧ SDropped s b g N W e w') := by
  have K := Lib.hid (wipe_run h.ar)
  have c0 := h.c0
  have H := Lib.hid h
  clear h
  go_enter_d Tryd.func17, Tryd.ntmps17
  go_wp2_with fail
  refine K.out.mono ?_
  rintro _ w1 ⟨rfl, ha, hs⟩
  obtain ⟨c1, f1, c2, f2, hsg, hst⟩ := sg_dropped H.out ha hs
  have HO := Lib.hid (And.intro hsg hst)
  clear ha hs K hsg hst
  go_wp2
  go_end0
  exact ⟨rfl, HO.out.1, HO.out.2⟩

/-! ### Add -/
set_option maxHeartbeats 1000000 in
set_option maxRecDepth 100000 in
theorem add_run (h : Sg W s b g N t) (c : Int) : Calls Tryd.prog 13 #[.pointer (some ⟨s, 0, none⟩), .int .i64 c] W (SDid s b g N (adS N c t) W) := by
  obtain ⟨X, bg, ov⟩ := t
  have c0 := h.c0
  have c1 := h.c1
  have c2 := h.c2
  dsimp only at c1 c2
  have KP := Lib.hid (U.pr_any c W)
  cases bg with
  | false =>
    have H := Lib.hid h
    have er : adS N c ⟨X, false, ov⟩ = (11, ⟨X, false, ov⟩) := rfl
    rw [er]
    clear h er
    go_enter Tryd.func13, Tryd.ntmps13
    go_wp2
    go_ret
    exact ⟨rfl, H.out, Stp.refl _ _⟩
  | true =>
    by_cases hp : U.prB c = true
    · rw [hp] at KP
      cases ov with
      | true =>
        have er : adS N c ⟨X, true, true⟩ = (4, ⟨X, true, true⟩) := by unfold adS; simp [hp]
        rw [er]
        have H := Lib.hid h
        clear h er hp
        go_enter Tryd.func13, Tryd.ntmps13
        go_wp2_with fail
        refine KP.out.mono ?_
        rintro _ w0 ⟨rfl, hw⟩
        obtain rfl : W = w0 := hw.symm
        go_wp2
        go_ret
        exact ⟨rfl, H.out, Stp.refl _ _⟩
      | false =>
        have h0 := of_decide_eq_true hp
        obtain ⟨m, rfl⟩ : ∃ m : Nat, c = (m : Int) := ⟨c.toNat, by omega⟩
        obtain ⟨hc, hm⟩ := pr_ch hp
        have KU := Lib.hid (U.put_yes m W hc)
        have er : adS N (m : Int) ⟨X, true, false⟩ = if (fl X).length + (enc8 m).length ≤ N then (0, ⟨X ++ [m], true, false⟩) else (4, ⟨X, true, true⟩) := by unfold adS; rw [if_pos rfl, if_pos hp, if_neg (by simp), Int.toNat_natCast, fl_one]
        have H := Lib.hid (And.intro h (And.intro (Pr.one hp) hm))
        clear h hp hc hm h0 c0 c1 c2
        have c0 := H.out.1.c0
        have c1 : W.cell? ⟨s, 1, none⟩ = some (.bool true) := H.out.1.c1
        have c2 : W.cell? ⟨s, 2, none⟩ = some (.bool false) := H.out.1.c2
        by_cases hf : (fl X).length + (enc8 m).length ≤ N
        · rw [er, if_pos hf]
          clear er
          have HF := Lib.hid hf
          clear hf
          go_enter Tryd.func13, Tryd.ntmps13
          go_wp2_with fail
          refine KP.out.mono ?_
          rintro _ w0 ⟨rfl, hw⟩
          obtain rfl : W = w0 := hw.symm
          clear KP
          go_wp2_with fail
          refine KU.out.mono ?_
          rintro _ w1 ⟨v, rfl, ho, hb⟩
          have s1 := Stp.of_below hb
          have ho := own_of_U ho (U.enc_lt m H.out.2.2)
          rw [show (U.enc m).map UInt8.ofNat = enc8 m from rfl] at ho
          obtain ⟨a, cap, rfl, hbt, hcap, hz, hbl⟩ := ho.bts
          have H1 := Lib.hid (And.intro (H.out.1.stays s1) (And.intro ho (And.intro s1 (And.intro hbt hbl))))
          clear ho hb s1 hbt hcap hz hbl KU c0 c1 c2
          have c0 := H1.out.1.c0
          have KL : ∀ W', Stp [] w1 [] W' → Calls Tryd.prog 27 #[.pointer (some ⟨b, 0, none⟩)] W' (Gives (.int .i64 ((fl X).length : Int)) W') := fun W' hs => len_cl (H1.out.1.ar.stays hs)
          have KL := Lib.hid KL
          have hcur : Stp [] w1 [] w1.drew := Stp.drew [] _
          have KI : ∀ W', Stp [] w1 [] W' → Calls Tryd.prog 34 #[.pointer (some ⟨b, 0, none⟩), .int .i64 ((fl X).length : Int), .slice a (enc8 m).length cap] W'
              fun en w' => en = .returned (.int .i64 0) ∧ Ar w' b g N (fl (X ++ [m])) ∧ Stp [b, g] w1 [b, g] w' ∧ w'.cell? ⟨s, 0, none⟩ = some (.pointer (some ⟨b, 0, none⟩)) := fun W' hs => by
            have k := insert_run (H1.out.1.ar.stays hs) (fl X).length a (enc8 m) (enc8 m).length cap (H1.out.2.2.2.1.stays hs) (fun _ ad e => by
              have h1 := H1.out.2.2.2.2 ad e
              have h2 := H.out.1.lt
              omega) rfl (Nat.le_refl _) HF.out
            have e1 : (fl X).take (fl X).length ++ enc8 m ++ (fl X).drop (fl X).length = fl (X ++ [m]) := by
              rw [List.take_length, List.drop_length, List.append_nil, fl_app, fl_one]
            rw [e1] at k
            exact k.mono fun _ _ ⟨h1, h2, h3⟩ => ⟨h1, h2, (hs.more (fun k hk => by cases hk)).trans h3, (h3.cell (a := ⟨s, 0, none⟩) (H1.out.1.stays hs).lt.1 (by simp [H.out.1.sb, H.out.1.sg])).trans (H1.out.1.stays hs).c0⟩
          have KI := Lib.hid KI
          obtain ⟨xl, hxl⟩ : ∃ xl, xl = (fl X).length := ⟨_, rfl⟩
          rw [← hxl] at KL KI
          obtain ⟨ml, hml⟩ : ∃ ml, ml = (enc8 m).length := ⟨_, rfl⟩
          rw [← hml] at KI ⊢
          have HM := Lib.hid hml
          clear hxl hml
          go_wp2_with fail
          go_region_held3 (fun W' => W'.cell? ⟨s, 0, none⟩ = some (.pointer (some ⟨b, 0, none⟩)))
            (first | exact (H1.out.1.stays hcur).c0 | assumption)
            (first
            | (go_at_call 27; refine (KL.out _ hcur).mono ?_; rintro _ w2 ⟨rfl, rfl⟩)
            | (go_at_call 34; refine (KI.out _ hcur).mono ?_; rintro _ w2 ⟨rfl, ha, hs, d0⟩; have HS := Lib.hid (And.intro ha hs); clear ha hs))
          all_goals
            obtain ⟨ha, hs⟩ := HS.out
            have hown : Own w2 W.heap.size (.slice a (enc8 m).length cap) (enc8 m) := H1.out.2.1.other hs (fun k hk => by
              have h1 := H1.out.2.1.lt k hk
              have h2 := H.out.1.lt
              simp
              omega)
            rw [← HM.out] at hown
            obtain ⟨w3, hclr, F, hF, s3⟩ := clear_row hown 0
            have hlt := H.out.1.lt
            have hnf : ∀ k, k < W.heap.size → k ∉ F := fun k hk g => by have := hF k g; omega
            have ho2 : w2.heap[s]? = some (.cells #[.pointer (some ⟨b, 0, none⟩), .bool true, .bool false] 74 (0, 0)) := (hs.block s H1.out.1.lt.1 (by simp [H.out.1.sb, H.out.1.sg])).trans H1.out.1.obj
            have ho3 : w3.heap[s]? = some (.cells #[.pointer (some ⟨b, 0, none⟩), .bool true, .bool false] 74 (0, 0)) := (s3.block s (Nat.lt_of_lt_of_le H1.out.1.lt.1 hs.size) (hnf _ hlt.1)).trans ho2
            have ha3 := ha.other s3 (hnf _ hlt.2.1) (hnf _ hlt.2.2)
            have d2 : w3.cell? ⟨s, 2, none⟩ = some (.bool false) := by rw [cell_of_row w3 s 2 _ _ _ ho3]; rfl
            have f2 : w3.frozen? ⟨s, 2, none⟩ = false := frozen_of_row w3 s 2 _ _ ho3
            have HO := Lib.hid (And.intro ho3 (And.intro ha3 (And.intro hs (And.intro hF s3))))
            clear ha hs hown hF s3 hlt hnf ho2 ho3 ha3 HS KL KI hcur c0
            go_wp2
            go_ret
            obtain ⟨ho3, ha3, hs, hF, s3⟩ := HO.out
            have hlt := H.out.1.lt
            have hnf : ∀ k, k < W.heap.size → k ∉ F := fun k hk g => by have := hF k g; omega
            have s4 : Stp [s] w3 [s] (w3.setCell ⟨s, 2, none⟩ (.bool false)) := Stp.setCell (F := [s]) (a := ⟨s, 2, none⟩) w3 _ (by simp)
            refine ⟨rfl, ⟨heap_setCell_same w3 s 2 _ _ _ ho3, ha3.other s4 (by simpa using H.out.1.sb.symm) (by simpa using H.out.1.sg.symm), H.out.1.pr.app H.out.2.1, (fun h => by cases h), H.out.1.sb, H.out.1.sg⟩, ?_⟩
            have q := (H1.out.2.2.1.more (G := [s, b, g]) (fun k hk => by cases hk)).trans (hs.more (G := [s, b, g]) (fun k hk => by simp at hk; simp; omega))
            have q3 : Stp [s, b, g] W [s, b, g] w3 := ⟨s3.os.trans q.os, s3.tape.trans q.tape, s3.output.trans q.output, Nat.le_trans q.size s3.size, fun k hk hG => (s3.block k (Nat.lt_of_lt_of_le hk q.size) (hnf k hk)).trans (q.block k hk hG), fun _ h => .inl h⟩
            exact q3.trans (s4.more (fun k hk => by simp at hk; simp [hk]))
        · rw [er, if_neg hf]
          clear er
          have HF := Lib.hid hf
          clear hf
          go_enter Tryd.func13, Tryd.ntmps13
          go_wp2_with fail
          refine KP.out.mono ?_
          rintro _ w0 ⟨rfl, hw⟩
          obtain rfl : W = w0 := hw.symm
          clear KP
          go_wp2_with fail
          refine KU.out.mono ?_
          rintro _ w1 ⟨v, rfl, ho, hb⟩
          have s1 := Stp.of_below hb
          have ho := own_of_U ho (U.enc_lt m H.out.2.2)
          rw [show (U.enc m).map UInt8.ofNat = enc8 m from rfl] at ho
          obtain ⟨a, cap, rfl, hbt, hcap, hz, hbl⟩ := ho.bts
          have H1 := Lib.hid (And.intro (H.out.1.stays s1) (And.intro ho (And.intro s1 (And.intro hbt hbl))))
          clear ho hb s1 hbt hcap hz hbl KU c0 c1 c2
          have c0 := H1.out.1.c0
          have KL : ∀ W', Stp [] w1 [] W' → Calls Tryd.prog 27 #[.pointer (some ⟨b, 0, none⟩)] W' (Gives (.int .i64 ((fl X).length : Int)) W') := fun W' hs => len_cl (H1.out.1.ar.stays hs)
          have KL := Lib.hid KL
          have hcur : Stp [] w1 [] w1.drew := Stp.drew [] _
          have KI : ∀ W', Stp [] w1 [] W' → Calls Tryd.prog 34 #[.pointer (some ⟨b, 0, none⟩), .int .i64 ((fl X).length : Int), .slice a (enc8 m).length cap] W'
              fun en w' => en = .returned (.int .i64 4) ∧ Ar w' b g N (fl X) ∧ Stp [b, g] w1 [b, g] w' ∧ w'.cell? ⟨s, 0, none⟩ = some (.pointer (some ⟨b, 0, none⟩)) := fun W' hs =>
            (insert_full (H1.out.1.ar.stays hs) (fl X).length a (enc8 m).length cap (Nat.le_refl _) (by have := HF.out; show N < (fl X).length + (enc8 m).length; omega)).mono fun _ _ ⟨h1, q, h2⟩ => by
              have s2 : Stp [] w1 [] _ := hs.trans (Stp.drewN [] W' q)
              rw [h2]
              exact ⟨h1, H1.out.1.ar.stays s2, s2.more (fun k hk => by cases hk), (H1.out.1.stays s2).c0⟩
          have KI := Lib.hid KI
          obtain ⟨xl, hxl⟩ : ∃ xl, xl = (fl X).length := ⟨_, rfl⟩
          rw [← hxl] at KL KI
          obtain ⟨ml, hml⟩ : ∃ ml, ml = (enc8 m).length := ⟨_, rfl⟩
          rw [← hml] at KI ⊢
          have HM := Lib.hid hml
          clear hxl hml
          go_wp2_with fail
          go_region_held3 (fun W' => W'.cell? ⟨s, 0, none⟩ = some (.pointer (some ⟨b, 0, none⟩)))
            (first | exact (H1.out.1.stays hcur).c0 | assumption)
            (first
            | (go_at_call 27; refine (KL.out _ hcur).mono ?_; rintro _ w2 ⟨rfl, rfl⟩)
            | (go_at_call 34; refine (KI.out _ hcur).mono ?_; rintro _ w2 ⟨rfl, ha, hs, d0⟩; have HS := Lib.hid (And.intro ha hs); clear ha hs))
          all_goals
            obtain ⟨ha, hs⟩ := HS.out
            have hown : Own w2 W.heap.size (.slice a (enc8 m).length cap) (enc8 m) := H1.out.2.1.other hs (fun k hk => by
              have h1 := H1.out.2.1.lt k hk
              have h2 := H.out.1.lt
              simp
              omega)
            rw [← HM.out] at hown
            obtain ⟨w3, hclr, F, hF, s3⟩ := clear_row hown 0
            have hlt := H.out.1.lt
            have hnf : ∀ k, k < W.heap.size → k ∉ F := fun k hk g => by have := hF k g; omega
            have ho2 : w2.heap[s]? = some (.cells #[.pointer (some ⟨b, 0, none⟩), .bool true, .bool false] 74 (0, 0)) := (hs.block s H1.out.1.lt.1 (by simp [H.out.1.sb, H.out.1.sg])).trans H1.out.1.obj
            have ho3 : w3.heap[s]? = some (.cells #[.pointer (some ⟨b, 0, none⟩), .bool true, .bool false] 74 (0, 0)) := (s3.block s (Nat.lt_of_lt_of_le H1.out.1.lt.1 hs.size) (hnf _ hlt.1)).trans ho2
            have ha3 := ha.other s3 (hnf _ hlt.2.1) (hnf _ hlt.2.2)
            have d2 : w3.cell? ⟨s, 2, none⟩ = some (.bool false) := by rw [cell_of_row w3 s 2 _ _ _ ho3]; rfl
            have f2 : w3.frozen? ⟨s, 2, none⟩ = false := frozen_of_row w3 s 2 _ _ ho3
            have HO := Lib.hid (And.intro ho3 (And.intro ha3 (And.intro hs (And.intro hF s3))))
            clear ha hs hown hF s3 hlt hnf ho2 ho3 ha3 HS KL KI hcur c0
            go_wp2
            go_ret
            obtain ⟨ho3, ha3, hs, hF, s3⟩ := HO.out
            have hlt := H.out.1.lt
            have hnf : ∀ k, k < W.heap.size → k ∉ F := fun k hk g => by have := hF k g; omega
            have s4 : Stp [s] w3 [s] (w3.setCell ⟨s, 2, none⟩ (.bool true)) := Stp.setCell (F := [s]) (a := ⟨s, 2, none⟩) w3 _ (by simp)
            refine ⟨rfl, ⟨heap_setCell_same w3 s 2 _ _ _ ho3, ha3.other s4 (by simpa using H.out.1.sb.symm) (by simpa using H.out.1.sg.symm), H.out.1.pr, (fun h => by cases h), H.out.1.sb, H.out.1.sg⟩, ?_⟩
            have q := (H1.out.2.2.1.more (G := [s, b, g]) (fun k hk => by cases hk)).trans (hs.more (G := [s, b, g]) (fun k hk => by simp at hk; simp; omega))
            have q3 : Stp [s, b, g] W [s, b, g] w3 := ⟨s3.os.trans q.os, s3.tape.trans q.tape, s3.output.trans q.output, Nat.le_trans q.size s3.size, fun k hk hG => (s3.block k (Nat.lt_of_lt_of_le hk q.size) (hnf k hk)).trans (q.block k hk hG), fun _ h => .inl h⟩
            exact q3.trans (s4.more (fun k hk => by simp at hk; simp [hk]))
    · have hpf : U.prB c = false := by simpa using hp
      rw [hpf] at KP
      have er : adS N c ⟨X, true, ov⟩ = (2, ⟨X, true, ov⟩) := by unfold adS; simp [hpf]
      rw [er]
      have H := Lib.hid h
      clear h er hp hpf
      go_enter Tryd.func13, Tryd.ntmps13
      go_wp2_with fail
      refine KP.out.mono ?_
      rintro _ w0 ⟨rfl, hw⟩
      obtain rfl : W = w0 := hw.symm
      go_wp2
      go_ret
      exact ⟨rfl, H.out, Stp.refl _ _⟩
end
end Go.Proofs.YtombkdbojdhodaaDoor
