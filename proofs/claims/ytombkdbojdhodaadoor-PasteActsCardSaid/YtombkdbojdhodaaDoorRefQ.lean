/-
  The document's stage: Add, End.
-/
import Derived.Test.YtombkdbojdhodaaDoorRefP
import Derived.Test.YtombkdbojdhodaaDoorNum
namespace Go.Proofs.YtombkdbojdhodaaDoor
open Go.RowKit Go.Lib
set_option linter.unusedVariables false

theorem its_one (w : World) (v : Nat) : Its (w.alloc (.cells #[.int .i64 (v : Int)] 3)) (some ⟨w.heap.size, 0, none⟩) [v] := by
  obtain ⟨a, k, e2, hi, _⟩ := OwnI.its (OwnI.one w v)
  cases e2
  exact hi
section
variable {F : List Nat} {W : World} {x N ca : Nat} {pa : Option Addr} {t : Sv}
set_option maxHeartbeats 2000000 in
set_option maxRecDepth 100000 in
theorem radd_run (h : Tc F W x N pa ca t) (c : Int) : Calls Tryd.prog 14 #[.pointer (some ⟨x, 0, none⟩), .int .i64 c] W (TDid F x N (adS N c t) W) := by
  obtain ⟨X, bg, ov⟩ := t
  have c2 : W.cell? ⟨x, 2, none⟩ = some (.bool bg) := h.c2
  cases bg with
  | false =>
    have H := Lib.hid h
    have er : adS N c ⟨X, false, ov⟩ = (11, ⟨X, false, ov⟩) := rfl
    rw [er]
    clear h er
    go_enter Tryd.func14, Tryd.ntmps14
    go_wp2
    go_ret
    exact ⟨rfl, ⟨_, _, H.out⟩, Stp.refl _ _⟩
  | true =>
    have KP := Lib.hid (U.rpr_any c W)
    rcases adS_cases N c X ov with ⟨m, rfl, hp, rfl, hf, er⟩ | ⟨hp, er⟩ | ⟨m, rfl, hp, ho, er⟩
    · rw [er]
      rw [hp] at KP
      have H := Lib.hid (And.intro h (And.intro hp hf))
      have d0 : W.cell? ⟨x, 0, none⟩ = some (.slice pa X.length ca) := h.c0
      have d1 : W.cell? ⟨x, 1, none⟩ = some (.int .i64 (N : Int)) := h.c1
      have d3 : W.cell? ⟨x, 3, none⟩ = some (.bool false) := h.c3
      have HC : Aside (∀ W', Stp [] W [] W' → W'.cell? ⟨x, 0, none⟩ = some (.slice pa X.length ca) ∧ W'.cell? ⟨x, 1, none⟩ = some (.int .i64 (N : Int)) ∧ W'.cell? ⟨x, 3, none⟩ = some (.bool false)) := fun W' hs => ⟨(h.stays hs).c0, (h.stays hs).c1, (h.stays hs).c3⟩
      have KB : ∀ W', Stp [] W [] W' → Calls Tryd.prog 23 #[.slice pa X.length ca] W' fun e w' => ∃ a c, e = .returned (.slice a (fl X).length c) ∧ Stp [] W [] w' := fun W' hs =>
        (rbytes_run pa X.length ca X W' (h.ia.stays hs) rfl h.len h.pr).mono fun _ _ ⟨v, q1, q2, q3⟩ => by
          obtain ⟨a, c, rfl, _⟩ := q2.bts
          exact ⟨a, c, q1, hs.trans q3⟩
      have KU : ∀ W', Stp [] W [] W' → Calls Tryd.prog 37 #[.int .i64 (m : Int)] W' fun e w' => ∃ a c, e = .returned (.slice a (enc8 m).length c) ∧ Stp [] W [] w' := fun W' hs =>
        (rput8 m W' (pr_ch hp).2).mono fun _ _ ⟨a, c, q1, q2, q3⟩ => ⟨a, c, q1, hs.trans q3⟩
      have hl4 := (enc8_len m).2
      have hl0 := h.fit
      dsimp only at hl0
      obtain ⟨xl, hxl⟩ : ∃ xl, xl = (fl X).length := ⟨_, rfl⟩
      obtain ⟨ml, hml⟩ : ∃ ml, ml = (enc8 m).length := ⟨_, rfl⟩
      obtain ⟨nx, hnx⟩ : ∃ nx, nx = X.length := ⟨_, rfl⟩
      rw [← hxl] at KB hf hl0
      rw [← hml] at KU hf hl4
      rw [← hnx] at KB d0 HC
      have hsum : IntKind.i64.wrap ((xl : Int) + (ml : Int)) = ((xl + ml : Nat) : Int) := by rw [IntKind.wrap_i64]; omega
      have hfz : decide ((N : Int) < (xl : Int) + (ml : Int)) = false := decide_eq_false (by omega)
      have hfz2 : ¬ (N : Int) < ((xl + ml : Nat) : Int) := by omega
      have KB := Lib.hid KB
      have KU := Lib.hid KU
      have HN := Lib.hid hnx
      clear er h hp hf hxl hml hnx hl4 hl0
      have hcur : Stp [] W [] W.drew := Stp.drew [] _
      go_enter Tryd.func14, Tryd.ntmps14
      go_wp2_with fail
      refine KP.out.mono ?_
      rintro _ w0 ⟨rfl, hw⟩
      obtain rfl : W = w0 := hw.symm
      clear KP
      go_wp2_with fail
      go_region_held3 (fun W' => W'.cell? ⟨x, 0, none⟩ = some (.slice pa nx ca) ∧ W'.cell? ⟨x, 1, none⟩ = some (.int .i64 (N : Int)) ∧ W'.cell? ⟨x, 3, none⟩ = some (.bool false))
        (first | exact HC.out _ hcur | exact ⟨by assumption, by assumption, by assumption⟩)
        (first
          | (go_at_call 23; refine (KB.out _ hcur).mono ?_; rintro _ w2 ⟨a2, k2, rfl, s2⟩; replace hcur := s2)
          | (go_at_call 37; refine (KU.out _ hcur).mono ?_; rintro _ w3 ⟨a3, k3, rfl, s3⟩; replace hcur := s3))
      have HW := Lib.hid (And.intro hcur (H.out.1.stays hcur))
      have d0 : w3.cell? ⟨x, 0, none⟩ = some (.slice pa nx ca) := (HC.out _ hcur).1
      have f0 := HW.out.2.fz 0
      have hm2 := HW.out.2.lt
      have hl := H.out.1.len
      dsimp only at hl
      have HO0 : Aside (U.OwnI (w3.alloc (.cells #[] 3)) w3.heap.size (.slice (some ⟨w3.heap.size, 0, none⟩) 0 0) [] ∧ Stp [] w3 [] (w3.alloc (.cells #[] 3))) := ⟨OwnI.new w3, Stp.alloc [] w3 _⟩
      clear hcur HC KB KU
      go_wp2_with (first
        | (at_builtin
           refine wpList_appN rfl (.tmp 38) (.tmp 42) rfl w3.heap.size (.slice (some ⟨w3.heap.size, 0, none⟩) 0 0) [] rfl HO0.out.1 pa ca nx X HN.out rfl (HW.out.2.ia.stays HO0.out.2) HW.out.2.na (by simp; omega) (by simp) ?_
           intro v4 w4 ho4 hg4
           rw [List.nil_append] at ho4
           have H4 : Aside (Stp [] w3 [] w4 ∧ U.OwnI w4 w3.heap.size v4 X) := ⟨HO0.out.2.app hg4 (fun k hk => by simp [Value.ownBlock] at hk; omega), ho4⟩
           clear ho4 hg4)
        | (at_builtin
           refine wpList_appN rfl (.tmp 43) (.tmp 45) rfl w3.heap.size v4 X rfl (World.ownsRow.alloc H4.out.2 _) (some ⟨w4.heap.size, 0, none⟩) 1 1 [m] rfl rfl (its_one w4 m) (fun h => by cases h) (by simp; omega) (by have := H4.out.1.size; simp; omega) ?_
           intro v5 w5 ho5 hg5
           obtain ⟨a5, k5, rfl, hi5, hn5, hl5, hb5⟩ := OwnI.its ho5
           have H5 : Aside (Stp [] w3 [] w5 ∧ Its w5 a5 (X ++ [m]) ∧ (a5 = none → k5 = 0) ∧ ∀ ad, a5 = some ad → w3.heap.size ≤ ad.block ∧ ad.block < w5.heap.size) := ⟨(H4.out.1.trans (Stp.alloc [] w4 _)).app hg5 (fun k hk => (World.ownsRow.lt H4.out.2 k hk).1), hi5, hn5, hb5⟩
           have f5 : w5.frozen? ⟨x, 0, none⟩ = false := (HW.out.2.stays H5.out.1).fz 0
           have d5 : w5.cell? ⟨x, 0, none⟩ = some (.slice pa X.length ca) := (HW.out.2.stays H5.out.1).c0
           clear ho5 hg5 hi5 hn5 hl5 hb5))
      go_ret
      have eL : X.length + 1 = (X ++ [m]).length := by simp
      rw [eL]
      have q := HW.out.2.stays H5.out.1
      have hs : Stp [x] w5 [x] (w5.setCell ⟨x, 0, none⟩ (.slice a5 (X ++ [m]).length k5)) := Stp.setCell (F := [x]) (a := ⟨x, 0, none⟩) w5 _ (by simp)
      refine ⟨rfl, ⟨a5, k5, q.turn (t2 := ⟨X ++ [m], true, false⟩) hs (heap_setCell_same w5 x 0 _ _ _ q.obj) H5.out.2.1 H5.out.2.2.1 (fun ad e => ⟨fun g => by have := HW.out.2.lo _ g; have := (H5.out.2.2.2 ad e).1; omega, (H5.out.2.2.2 ad e).2⟩) (q.pr.app (Pr.one H.out.2.1)) ?_ (fun h => by cases h)⟩, ((HW.out.1.trans H5.out.1).more (fun k h => by cases h)).trans hs⟩
      show (fl (X ++ [m])).length ≤ N
      rw [fl_app, fl_one, List.length_append]
      exact H.out.2.2
    · rw [er]
      rw [hp] at KP
      have H := Lib.hid h
      clear h er hp
      go_enter Tryd.func14, Tryd.ntmps14
      go_wp2_with fail
      refine KP.out.mono ?_
      rintro _ w0 ⟨rfl, hw⟩
      obtain rfl : W = w0 := hw.symm
      go_wp2
      go_ret
      exact ⟨rfl, ⟨_, _, H.out⟩, Stp.refl _ _⟩
    · rw [er]
      rw [hp] at KP
      cases ov with
      | true =>
        have H := Lib.hid h
        have d3 : W.cell? ⟨x, 3, none⟩ = some (.bool true) := h.c3
        have f3 := h.fz 3
        clear h er hp ho
        go_enter Tryd.func14, Tryd.ntmps14
        go_wp2_with fail
        refine KP.out.mono ?_
        rintro _ w0 ⟨rfl, hw⟩
        obtain rfl : W = w0 := hw.symm
        clear KP
        go_wp2_with fail
        go_quiet (fail)
        clear d3
        have q := H.out.stays (Stp.drewN [] W nq)
        have e3 : (W.drewN nq).cell? ⟨x, 3, none⟩ = some (.bool true) := q.c3
        have f3 := q.fz 3
        have HQ := Lib.hid q
        clear q
        go_wp2
        go_ret
        have hs : Stp [x] (W.drewN nq) [x] ((W.drewN nq).setCell ⟨x, 3, none⟩ (.bool true)) := Stp.setCell (F := [x]) (a := ⟨x, 3, none⟩) _ _ (by simp)
        exact ⟨rfl, ⟨_, _, HQ.out.turn (t2 := ⟨X, true, true⟩) hs (heap_setCell_same _ x 3 _ _ _ HQ.out.obj) HQ.out.ia HQ.out.na HQ.out.xa HQ.out.pr HQ.out.fit.1 (fun h => by cases h)⟩, (Stp.drewN [x] W nq).trans hs⟩
      | false =>
        have hf : N < (fl X).length + (enc8 m).length := by rcases ho with h | h; cases h; exact h
        have H := Lib.hid h
        have d0 : W.cell? ⟨x, 0, none⟩ = some (.slice pa X.length ca) := h.c0
        have d1 : W.cell? ⟨x, 1, none⟩ = some (.int .i64 (N : Int)) := h.c1
        have d3 : W.cell? ⟨x, 3, none⟩ = some (.bool false) := h.c3
        have HC : Aside (∀ W', Stp [] W [] W' → W'.cell? ⟨x, 0, none⟩ = some (.slice pa X.length ca) ∧ W'.cell? ⟨x, 1, none⟩ = some (.int .i64 (N : Int)) ∧ W'.cell? ⟨x, 3, none⟩ = some (.bool false)) := fun W' hs => ⟨(h.stays hs).c0, (h.stays hs).c1, (h.stays hs).c3⟩
        have KB : ∀ W', Stp [] W [] W' → Calls Tryd.prog 23 #[.slice pa X.length ca] W' fun e w' => ∃ a c, e = .returned (.slice a (fl X).length c) ∧ Stp [] W [] w' := fun W' hs =>
          (rbytes_run pa X.length ca X W' (h.ia.stays hs) rfl h.len h.pr).mono fun _ _ ⟨v, q1, q2, q3⟩ => by
            obtain ⟨a, c, rfl, _⟩ := q2.bts
            exact ⟨a, c, q1, hs.trans q3⟩
        have KU : ∀ W', Stp [] W [] W' → Calls Tryd.prog 37 #[.int .i64 (m : Int)] W' fun e w' => ∃ a c, e = .returned (.slice a (enc8 m).length c) ∧ Stp [] W [] w' := fun W' hs =>
          (rput8 m W' (pr_ch hp).2).mono fun _ _ ⟨a, c, q1, q2, q3⟩ => ⟨a, c, q1, hs.trans q3⟩
        have hl4 := (enc8_len m).2
        have hl0 := h.fit
        dsimp only at hl0
        obtain ⟨xl, hxl⟩ : ∃ xl, xl = (fl X).length := ⟨_, rfl⟩
        obtain ⟨ml, hml⟩ : ∃ ml, ml = (enc8 m).length := ⟨_, rfl⟩
        obtain ⟨nx, hnx⟩ : ∃ nx, nx = X.length := ⟨_, rfl⟩
        rw [← hxl] at KB hf hl0
        rw [← hml] at KU hf hl4
        rw [← hnx] at KB d0 HC
        have hsum : IntKind.i64.wrap ((xl : Int) + (ml : Int)) = ((xl + ml : Nat) : Int) := by rw [IntKind.wrap_i64]; omega
        have hfz : decide ((N : Int) < (xl : Int) + (ml : Int)) = true := decide_eq_true (by omega)
        have hfz2 : (N : Int) < ((xl + ml : Nat) : Int) := by omega
        have KB := Lib.hid KB
        have KU := Lib.hid KU
        have HN := Lib.hid hnx
        clear er h hp hf ho hxl hml hnx hl4 hl0
        have hcur : Stp [] W [] W.drew := Stp.drew [] _
        go_enter Tryd.func14, Tryd.ntmps14
        go_wp2_with fail
        refine KP.out.mono ?_
        rintro _ w0 ⟨rfl, hw⟩
        obtain rfl : W = w0 := hw.symm
        clear KP
        go_wp2_with fail
        go_region_held3 (fun W' => W'.cell? ⟨x, 0, none⟩ = some (.slice pa nx ca) ∧ W'.cell? ⟨x, 1, none⟩ = some (.int .i64 (N : Int)) ∧ W'.cell? ⟨x, 3, none⟩ = some (.bool false))
          (first | exact HC.out _ hcur | exact ⟨by assumption, by assumption, by assumption⟩)
          (first
            | (go_at_call 23; refine (KB.out _ hcur).mono ?_; rintro _ w2 ⟨a2, k2, rfl, s2⟩; replace hcur := s2)
            | (go_at_call 37; refine (KU.out _ hcur).mono ?_; rintro _ w3 ⟨a3, k3, rfl, s3⟩; replace hcur := s3))
        have q := H.out.stays hcur
        have e3 : w3.cell? ⟨x, 3, none⟩ = some (.bool false) := q.c3
        have f3 := q.fz 3
        have HQ := Lib.hid (And.intro q hcur)
        clear hcur HC KB KU q
        go_wp2
        go_ret
        have hs : Stp [x] w3 [x] (w3.setCell ⟨x, 3, none⟩ (.bool true)) := Stp.setCell (F := [x]) (a := ⟨x, 3, none⟩) w3 _ (by simp)
        exact ⟨rfl, ⟨_, _, HQ.out.1.turn (t2 := ⟨X, true, true⟩) hs (heap_setCell_same w3 x 3 _ _ _ HQ.out.1.obj) HQ.out.1.ia HQ.out.1.na HQ.out.1.xa HQ.out.1.pr HQ.out.1.fit.1 (fun h => by cases h)⟩, (HQ.out.2.more (fun k h => by cases h)).trans hs⟩
/-- What End leaves. -/
def REDid (F : List Nat) (x N m M : Nat) (r : Rs) (W : World) (en : Ending) (w' : World) : Prop := en = .returned (.int .i64 r.e) ∧ Tx F w' x N sv0 ∧ Rb F w' m M r.A r.B ∧ Stp [x, m] W [x, m] w'
set_option maxHeartbeats 2000000 in
set_option maxRecDepth 100000 in
theorem rend_run {m M : Nat} {A B : List Nat} (h : Tc F W x N pa ca t) (hb : Rb F W m M A B) (hM : M ≤ 4096) (hmF : m ∈ F) (hxm : x ≠ m) : Calls Tryd.prog 16 #[.pointer (some ⟨x, 0, none⟩), .pointer (some ⟨m, 0, none⟩)] W (REDid F x N m M (enS M t A B) W) := by
  obtain ⟨X, bg, ov⟩ := t
  have c0 : W.cell? ⟨x, 0, none⟩ = some (.slice pa X.length ca) := h.c0
  have c2 : W.cell? ⟨x, 2, none⟩ = some (.bool bg) := h.c2
  have c3 : W.cell? ⟨x, 3, none⟩ = some (.bool ov) := h.c3
  have KD := Lib.hid (rdrop_run h)
  have H := Lib.hid (And.intro h hb)
  have HX := Lib.hid (And.intro hM (And.intro hmF hxm))
  clear h hb hM hmF hxm
  cases bg with
  | false =>
    have hi := H.out.1.inv rfl
    dsimp only at hi
    obtain ⟨rfl, rfl⟩ := hi
    have er : enS M ⟨[], false, false⟩ A B = ⟨11, A, B⟩ := rfl
    rw [er]
    clear er
    go_enter Tryd.func16, Tryd.ntmps16
    go_wp2
    go_ret
    exact ⟨rfl, ⟨_, _, H.out.1⟩, H.out.2, Stp.refl _ _⟩
  | true =>
    cases ov with
    | true =>
      have er : enS M ⟨X, true, true⟩ A B = ⟨4, A, B⟩ := rfl
      rw [er]
      clear er
      go_enter Tryd.func16, Tryd.ntmps16
      go_wp2_with fail
      refine KD.out.mono ?_
      rintro _ w1 ⟨rfl, h1, s1⟩
      have H1 := Lib.hid (And.intro h1 s1)
      clear h1 s1 KD
      go_wp2
      go_ret
      exact ⟨rfl, H1.out.1, H.out.2.other H1.out.2 (fun k hk => by rw [List.mem_singleton.1 hk]; exact H.out.1.xF) (by have := HX.out.2.2; simp; omega), H1.out.2.more (fun k hk => by simp at hk; simp [hk])⟩
    | false =>
      have er : enS M ⟨X, true, false⟩ A B = layS M X A B := rfl
      rw [er]
      clear er
      have hl4 := H.out.1.len
      dsimp only at hl4
      obtain ⟨nx, hnx⟩ : ∃ nx, nx = X.length := ⟨_, rfl⟩
      have KB : ∀ w1, Stp [x] W [x] w1 → Calls Tryd.prog 23 #[.slice pa nx ca] w1 fun e w' => ∃ a c, e = .returned (.slice a (fl X).length c) ∧ Bts w' a (fl X) ∧ (fl X).length ≤ c ∧ c ≤ maxLen ∧ Stp [] w1 [] w' := fun w1 hs =>
        (rbytes_run pa nx ca X w1 (H.out.1.ia.other hs (fun _ ad e g => (H.out.1.xa ad e).1 (by rw [List.mem_singleton.1 g]; exact H.out.1.xF))) hnx (by omega) H.out.1.pr).mono fun _ _ ⟨v, q1, q2, q3⟩ => by
          have hm := q2.2
          obtain ⟨a, c, rfl, hb, _, hc, _⟩ := q2.bts
          refine ⟨a, c, q1, hb, hc, ?_, q3⟩
          rcases hm with ⟨e, _⟩ | ⟨g, cap, cur, e, _, _, _, hmx, _⟩
          · injection e with _ _ e3
            rw [e3]
            unfold maxLen
            omega
          · injection e with _ _ e3
            rw [e3]
            exact hmx
      rw [← hnx] at c0
      have KB := Lib.hid KB
      have HN := Lib.hid hnx
      have hf := H.out.1.fit
      dsimp only at hf
      have HF := Lib.hid hf
      clear hnx hl4 hf
      go_enter Tryd.func16, Tryd.ntmps16
      go_wp2_with fail
      refine KD.out.mono ?_
      rintro _ w1 ⟨rfl, h1, s1⟩
      have KB := Lib.hid (KB.out w1 s1)
      have H1 := Lib.hid (And.intro h1 (And.intro s1 (H.out.2.other s1 (fun k hk => by rw [List.mem_singleton.1 hk]; exact H.out.1.xF) (by have := HX.out.2.2; simp; omega))))
      clear h1 s1 KD
      go_wp2_with fail
      refine KB.out.mono ?_
      rintro _ w2 ⟨a, c, rfl, hb2, hc2, hm2, s2⟩
      have KI := rbins_run (H1.out.2.2.stays s2) HX.out.1 a (fl X).length c (fl X) hb2 rfl hc2 hm2 (by have := HF.out; omega)
      rw [insS_fl H.out.1.pr] at KI
      have KI := Lib.hid KI
      have S2 := Lib.hid s2
      clear hb2 hc2 hm2 s2 KB
      generalize layS M X A B = r at *
      go_wp2_with fail
      refine KI.out.mono ?_
      rintro _ w3 ⟨rfl, h3, s3⟩
      have H3 := Lib.hid (And.intro h3 s3)
      clear h3 s3 KI
      go_wp2
      go_ret
      have hx1 := HX.out
      exact ⟨rfl, (H1.out.1.stays S2.out).other H3.out.2 (fun k hk => by rw [List.mem_singleton.1 hk]; exact hx1.2.1) (by simp; omega), H3.out.1, ((H1.out.2.1.more (fun k hk => by simp at hk; simp [hk])).trans (S2.out.more (fun k hk => by cases hk))).trans (H3.out.2.more (fun k hk => by simp at hk; simp [hk]))⟩
end
end Go.Proofs.YtombkdbojdhodaaDoor
