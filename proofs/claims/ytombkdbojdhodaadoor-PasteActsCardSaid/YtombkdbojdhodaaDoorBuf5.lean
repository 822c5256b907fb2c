/-
  Do: what a key does.
-/
import Derived.Test.YtombkdbojdhodaaDoorBuf4
import Derived.Deep.RegionHeld3
namespace Go.Proofs.YtombkdbojdhodaaDoor
open Go.RowKit Go.Lib Go.Maps
set_option linter.unusedVariables false

/-- A key. -/
def kv (k c : Int) : Value := .agg #[.int .i64 k, .int .i64 c]
/-- What Do answers, and leaves. -/
def Done (e b g N : Nat) (r : Rs) (A B : List Nat) (W : World) (en : Ending) (w' : World) : Prop :=
  en = .returned (.tuple #[.bool (chg r A B), .int .i64 r.e]) ∧ Bu w' e b g N r.A r.B ∧ Stp [e, b, g] W [e, b, g] w'
theorem chgB_same {r : Rs} {A B : List Nat} (h1 : (fl r.A).length = (fl A).length) (h2 : (fl (r.A ++ r.B)).length = (fl (A ++ B)).length) : chgB r A B = false := by simp [chgB, h1, h2]
theorem chgB_place {r : Rs} {A B : List Nat} (h1 : (fl r.A).length ≠ (fl A).length) : chgB r A B = true := by simp [chgB, h1]
theorem chgB_len {r : Rs} {A B : List Nat} (h1 : (fl (r.A ++ r.B)).length ≠ (fl (A ++ B)).length) : chgB r A B = true := by simp [chgB, h1]
section
variable {W : World} {e b g N : Nat} {A B : List Nat}
theorem do_nil (k : Value) (W : World) (kk c : Int) (hk : k = kv kk c) : Calls Tryd.prog 21 #[.pointer none, k] W fun en w' => en = .returned (.tuple #[.bool false, .int .i64 1]) ∧ Stp [] W [] w' := by
  subst hk
  unfold kv
  go_enter Tryd.func21, Tryd.ntmps21
  go_wp2
  go_ret2
  exact ⟨rfl, Stp.alloc _ _ _⟩
set_option maxRecDepth 100000 in
theorem do_0 (h : Bu W e b g N A B) (c : Int) (r : Rs) (hr : r = doS N 0 c A B) : Calls Tryd.prog 21 #[.pointer (some ⟨e, 0, none⟩), kv 0 c] W (Done e b g N r A B W) := by
  have K0 := Lib.hid doings_run
  have KC : ∀ W', Bu W' e b g N A B → Calls Tryd.prog 19 #[.pointer (some ⟨e, 0, none⟩), .int .i64 c] W' (Did e b g N r W') := fun W' k => by
    rw [hr]
    exact bput_run k c
  have KC := Lib.hid KC
  have KL := Lib.hid (fun W' (k : Bu W' e b g N A B) => blen_run k)
  have KM := Lib.hid (fun W' (k : Bu W' e b g N r.A r.B) => blen_run k)
  have hg := doS_chg N 0 c A B
  rw [← hr] at hg
  have HG := Lib.hid hg
  have H := Lib.hid h
  unfold kv
  clear hg h hr
  go_enter Tryd.func21, Tryd.ntmps21
  go_wp2_with fail
  have hA := heap_alloc_new W (.cells #[.int .i64 0, .int .i64 c] 47)
  have H0 : Aside (Stp [] W [] (W.alloc (.cells #[.int .i64 0, .int .i64 c] 47)) ∧ W.heap.size < (W.alloc (.cells #[.int .i64 0, .int .i64 c] 47)).heap.size) := ⟨Stp.alloc _ _ _, by simp⟩
  generalize W.alloc (.cells #[.int .i64 0, .int .i64 c] 47) = w0 at *
  generalize W.heap.size = gk at *
  have hk0 : Aside (∀ W', Stp [] w0 [] W' → W'.cell? ⟨gk, 0, none⟩ = some (.int .i64 0) ∧ W'.cell? ⟨gk, 1, none⟩ = some (.int .i64 c)) := fun W' hs => by
    have h1 := (hs.block gk H0.out.2 (by simp)).trans hA
    exact ⟨by rw [cell_of_row W' gk 0 _ _ _ h1]; rfl, by rw [cell_of_row W' gk 1 _ _ _ h1]; rfl⟩
  have hcur : Stp [] w0 [] w0.drew := Stp.drew _ _
  clear hA
  go_region_held3 (fun W' => W'.cell? ⟨gk, 0, none⟩ = some (.int .i64 0))
    (first | exact (hk0.out _ hcur).1 | assumption)
    (first
      | (go_at_call 49; refine (K0.out _).mono ?_; rintro _ w1 ⟨t, rfl, ho, s1⟩; replace hcur := hcur.trans s1; have hlk := OM.look ho 0 (by decide) _ rfl; clear s1 ho))
  have H1 : Aside (Bu w1 e b g N A B ∧ Stp [] W [] w1 ∧ Stp [] w0 [] w1) := ⟨H.out.stays (H0.out.1.trans hcur), H0.out.1.trans hcur, hcur⟩
  clear K0 hcur hlk
  have c1 := H1.out.1.c1
  have hc := (hk0.out _ H1.out.2.2).2
  have KQ : ∀ q, Calls Tryd.prog 40 #[.pointer (some ⟨e, 0, none⟩)] (w1.drewN q) fun en w' => en = .returned (.int .i64 ((fl (A ++ B)).length : Int)) ∧ ∃ m, w' = w1.drewN m := fun q => (KL.out _ (H1.out.1.drewN q)).mono fun _ _ ⟨h1, h2⟩ => ⟨h1, q, h2⟩
  have KQ := Lib.hid KQ
  obtain ⟨n, hn⟩ : ∃ n, n = (fl (A ++ B)).length := ⟨_, rfl⟩
  obtain ⟨m, hm⟩ : ∃ m, m = (fl A).length := ⟨_, rfl⟩
  rw [← hn] at KQ
  rw [← hm] at c1
  have HN := Lib.hid (And.intro hn hm)
  clear hn hm KL
  go_wp2_with fail
  go_quiet ((go_at_call 40; exact KQ.out _))
  have H2 : Aside (Bu (w1.drewN nq) e b g N A B ∧ Stp [] W [] (w1.drewN nq) ∧ Stp [] w0 [] (w1.drewN nq)) := ⟨H1.out.1.drewN nq, H1.out.2.1.trans (Stp.drewN _ _ _), H1.out.2.2.trans (Stp.drewN _ _ _)⟩
  generalize w1.drewN nq = w2 at *
  clear c1 hc H1 KQ
  have hc := (hk0.out _ H2.out.2.2).2
  have KC := Lib.hid (KC.out w2 H2.out.1)
  go_wp2_with fail
  refine KC.out.mono ?_
  rintro _ w3 ⟨rfl, h3, s3⟩
  have KM := KM.out w3 h3
  have c1 := h3.c1
  have H3 := Lib.hid (And.intro h3 ((H2.out.2.1.more (fun k hk => by cases hk)).trans s3))
  obtain ⟨n', hn'⟩ : ∃ n', n' = (fl (r.A ++ r.B)).length := ⟨_, rfl⟩
  obtain ⟨m', hm'⟩ : ∃ m', m' = (fl r.A).length := ⟨_, rfl⟩
  rw [← hn'] at KM
  rw [← hm'] at c1
  have KM := Lib.hid KM
  have HN' := Lib.hid (And.intro hn' hm')
  clear h3 s3 hn' hm' KC hc
  by_cases p1 : m' = m
  · have q1 : ((m' : Int) != (m : Int)) = false := by simp [p1]
    by_cases p2 : n' = n
    · have q2 : ((n' : Int) != (n : Int)) = false := by simp [p2]
      have HV : Hid (chg r A B = false) := Lib.hid (by rw [← HG.out]; exact chgB_same (by rw [← HN'.out.2, ← HN.out.2]; exact p1) (by rw [← HN'.out.1, ← HN.out.1]; exact p2))
      clear p1 p2
      go_wp2_with fail
      refine KM.out.mono ?_
      rintro _ _ ⟨rfl, rfl⟩
      go_wp2
      go_ret2
      exact ⟨by rw [HV.out]; rfl, H3.out.1, H3.out.2⟩
    · have q2 : ((n' : Int) != (n : Int)) = true := by rw [bne_iff_ne]; omega
      have HV : Hid (chg r A B = true) := Lib.hid (by rw [← HG.out]; exact chgB_len (by rw [← HN'.out.1, ← HN.out.1]; exact p2))
      clear p1 p2
      go_wp2_with fail
      refine KM.out.mono ?_
      rintro _ _ ⟨rfl, rfl⟩
      go_wp2
      go_ret2
      exact ⟨by rw [HV.out]; rfl, H3.out.1, H3.out.2⟩
  · have q1 : ((m' : Int) != (m : Int)) = true := by rw [bne_iff_ne]; omega
    have HV : Hid (chg r A B = true) := Lib.hid (by rw [← HG.out]; exact chgB_place (by rw [← HN'.out.2, ← HN.out.2]; exact p1))
    clear p1
    go_wp2
    go_ret2
    exact ⟨by rw [HV.out]; rfl, H3.out.1, H3.out.2⟩
set_option maxRecDepth 100000 in
theorem do_2 (h : Bu W e b g N A B) (c : Int) (r : Rs) (hr : r = doS N 2 c A B) : Calls Tryd.prog 21 #[.pointer (some ⟨e, 0, none⟩), kv 2 c] W (Done e b g N r A B W) := by
  have K0 := Lib.hid doings_run
  have KC : ∀ W', Bu W' e b g N A B → Calls Tryd.prog 62 #[.pointer (some ⟨e, 0, none⟩), .int .i64 c] W' (Did e b g N r W') := fun W' k => by
    rw [hr]
    exact back_run k c
  have KC := Lib.hid KC
  have KL := Lib.hid (fun W' (k : Bu W' e b g N A B) => blen_run k)
  have KM := Lib.hid (fun W' (k : Bu W' e b g N r.A r.B) => blen_run k)
  have hg := doS_chg N 2 c A B
  rw [← hr] at hg
  have HG := Lib.hid hg
  have H := Lib.hid h
  unfold kv
  clear hg h hr
  go_enter Tryd.func21, Tryd.ntmps21
  go_wp2_with fail
  have hA := heap_alloc_new W (.cells #[.int .i64 2, .int .i64 c] 47)
  have H0 : Aside (Stp [] W [] (W.alloc (.cells #[.int .i64 2, .int .i64 c] 47)) ∧ W.heap.size < (W.alloc (.cells #[.int .i64 2, .int .i64 c] 47)).heap.size) := ⟨Stp.alloc _ _ _, by simp⟩
  generalize W.alloc (.cells #[.int .i64 2, .int .i64 c] 47) = w0 at *
  generalize W.heap.size = gk at *
  have hk0 : Aside (∀ W', Stp [] w0 [] W' → W'.cell? ⟨gk, 0, none⟩ = some (.int .i64 2) ∧ W'.cell? ⟨gk, 1, none⟩ = some (.int .i64 c)) := fun W' hs => by
    have h1 := (hs.block gk H0.out.2 (by simp)).trans hA
    exact ⟨by rw [cell_of_row W' gk 0 _ _ _ h1]; rfl, by rw [cell_of_row W' gk 1 _ _ _ h1]; rfl⟩
  have hcur : Stp [] w0 [] w0.drew := Stp.drew _ _
  clear hA
  go_region_held3 (fun W' => W'.cell? ⟨gk, 0, none⟩ = some (.int .i64 2))
    (first | exact (hk0.out _ hcur).1 | assumption)
    (first
      | (go_at_call 49; refine (K0.out _).mono ?_; rintro _ w1 ⟨t, rfl, ho, s1⟩; replace hcur := hcur.trans s1; have hlk := OM.look ho 2 (by decide) _ rfl; clear s1 ho))
  have H1 : Aside (Bu w1 e b g N A B ∧ Stp [] W [] w1 ∧ Stp [] w0 [] w1) := ⟨H.out.stays (H0.out.1.trans hcur), H0.out.1.trans hcur, hcur⟩
  clear K0 hcur hlk
  have c1 := H1.out.1.c1
  have hc := (hk0.out _ H1.out.2.2).2
  have KQ : ∀ q, Calls Tryd.prog 40 #[.pointer (some ⟨e, 0, none⟩)] (w1.drewN q) fun en w' => en = .returned (.int .i64 ((fl (A ++ B)).length : Int)) ∧ ∃ m, w' = w1.drewN m := fun q => (KL.out _ (H1.out.1.drewN q)).mono fun _ _ ⟨h1, h2⟩ => ⟨h1, q, h2⟩
  have KQ := Lib.hid KQ
  obtain ⟨n, hn⟩ : ∃ n, n = (fl (A ++ B)).length := ⟨_, rfl⟩
  obtain ⟨m, hm⟩ : ∃ m, m = (fl A).length := ⟨_, rfl⟩
  rw [← hn] at KQ
  rw [← hm] at c1
  have HN := Lib.hid (And.intro hn hm)
  clear hn hm KL
  go_wp2_with fail
  go_quiet ((go_at_call 40; exact KQ.out _))
  have H2 : Aside (Bu (w1.drewN nq) e b g N A B ∧ Stp [] W [] (w1.drewN nq) ∧ Stp [] w0 [] (w1.drewN nq)) := ⟨H1.out.1.drewN nq, H1.out.2.1.trans (Stp.drewN _ _ _), H1.out.2.2.trans (Stp.drewN _ _ _)⟩
  generalize w1.drewN nq = w2 at *
  clear c1 hc H1 KQ
  have hc := (hk0.out _ H2.out.2.2).2
  have KC := Lib.hid (KC.out w2 H2.out.1)
  go_wp2_with fail
  refine KC.out.mono ?_
  rintro _ w3 ⟨rfl, h3, s3⟩
  have KM := KM.out w3 h3
  have c1 := h3.c1
  have H3 := Lib.hid (And.intro h3 ((H2.out.2.1.more (fun k hk => by cases hk)).trans s3))
  obtain ⟨n', hn'⟩ : ∃ n', n' = (fl (r.A ++ r.B)).length := ⟨_, rfl⟩
  obtain ⟨m', hm'⟩ : ∃ m', m' = (fl r.A).length := ⟨_, rfl⟩
  rw [← hn'] at KM
  rw [← hm'] at c1
  have KM := Lib.hid KM
  have HN' := Lib.hid (And.intro hn' hm')
  clear h3 s3 hn' hm' KC hc
  by_cases p1 : m' = m
  · have q1 : ((m' : Int) != (m : Int)) = false := by simp [p1]
    by_cases p2 : n' = n
    · have q2 : ((n' : Int) != (n : Int)) = false := by simp [p2]
      have HV : Hid (chg r A B = false) := Lib.hid (by rw [← HG.out]; exact chgB_same (by rw [← HN'.out.2, ← HN.out.2]; exact p1) (by rw [← HN'.out.1, ← HN.out.1]; exact p2))
      clear p1 p2
      go_wp2_with fail
      refine KM.out.mono ?_
      rintro _ _ ⟨rfl, rfl⟩
      go_wp2
      go_ret2
      exact ⟨by rw [HV.out]; rfl, H3.out.1, H3.out.2⟩
    · have q2 : ((n' : Int) != (n : Int)) = true := by rw [bne_iff_ne]; omega
      have HV : Hid (chg r A B = true) := Lib.hid (by rw [← HG.out]; exact chgB_len (by rw [← HN'.out.1, ← HN.out.1]; exact p2))
      clear p1 p2
      go_wp2_with fail
      refine KM.out.mono ?_
      rintro _ _ ⟨rfl, rfl⟩
      go_wp2
      go_ret2
      exact ⟨by rw [HV.out]; rfl, H3.out.1, H3.out.2⟩
  · have q1 : ((m' : Int) != (m : Int)) = true := by rw [bne_iff_ne]; omega
    have HV : Hid (chg r A B = true) := Lib.hid (by rw [← HG.out]; exact chgB_place (by rw [← HN'.out.2, ← HN.out.2]; exact p1))
    clear p1
    go_wp2
    go_ret2
    exact ⟨by rw [HV.out]; rfl, H3.out.1, H3.out.2⟩
set_option maxRecDepth 100000 in
theorem do_3 (h : Bu W e b g N A B) (c : Int) (r : Rs) (hr : r = doS N 3 c A B) : Calls Tryd.prog 21 #[.pointer (some ⟨e, 0, none⟩), kv 3 c] W (Done e b g N r A B W) := by
  have K0 := Lib.hid doings_run
  have KC : ∀ W', Bu W' e b g N A B → Calls Tryd.prog 63 #[.pointer (some ⟨e, 0, none⟩), .int .i64 c] W' (Did e b g N r W') := fun W' k => by
    rw [hr]
    exact remove_run k c
  have KC := Lib.hid KC
  have KL := Lib.hid (fun W' (k : Bu W' e b g N A B) => blen_run k)
  have KM := Lib.hid (fun W' (k : Bu W' e b g N r.A r.B) => blen_run k)
  have hg := doS_chg N 3 c A B
  rw [← hr] at hg
  have HG := Lib.hid hg
  have H := Lib.hid h
  unfold kv
  clear hg h hr
  go_enter Tryd.func21, Tryd.ntmps21
  go_wp2_with fail
  have hA := heap_alloc_new W (.cells #[.int .i64 3, .int .i64 c] 47)
  have H0 : Aside (Stp [] W [] (W.alloc (.cells #[.int .i64 3, .int .i64 c] 47)) ∧ W.heap.size < (W.alloc (.cells #[.int .i64 3, .int .i64 c] 47)).heap.size) := ⟨Stp.alloc _ _ _, by simp⟩
  generalize W.alloc (.cells #[.int .i64 3, .int .i64 c] 47) = w0 at *
  generalize W.heap.size = gk at *
  have hk0 : Aside (∀ W', Stp [] w0 [] W' → W'.cell? ⟨gk, 0, none⟩ = some (.int .i64 3) ∧ W'.cell? ⟨gk, 1, none⟩ = some (.int .i64 c)) := fun W' hs => by
    have h1 := (hs.block gk H0.out.2 (by simp)).trans hA
    exact ⟨by rw [cell_of_row W' gk 0 _ _ _ h1]; rfl, by rw [cell_of_row W' gk 1 _ _ _ h1]; rfl⟩
  have hcur : Stp [] w0 [] w0.drew := Stp.drew _ _
  clear hA
  go_region_held3 (fun W' => W'.cell? ⟨gk, 0, none⟩ = some (.int .i64 3))
    (first | exact (hk0.out _ hcur).1 | assumption)
    (first
      | (go_at_call 49; refine (K0.out _).mono ?_; rintro _ w1 ⟨t, rfl, ho, s1⟩; replace hcur := hcur.trans s1; have hlk := OM.look ho 3 (by decide) _ rfl; clear s1 ho))
  have H1 : Aside (Bu w1 e b g N A B ∧ Stp [] W [] w1 ∧ Stp [] w0 [] w1) := ⟨H.out.stays (H0.out.1.trans hcur), H0.out.1.trans hcur, hcur⟩
  clear K0 hcur hlk
  have c1 := H1.out.1.c1
  have hc := (hk0.out _ H1.out.2.2).2
  have KQ : ∀ q, Calls Tryd.prog 40 #[.pointer (some ⟨e, 0, none⟩)] (w1.drewN q) fun en w' => en = .returned (.int .i64 ((fl (A ++ B)).length : Int)) ∧ ∃ m, w' = w1.drewN m := fun q => (KL.out _ (H1.out.1.drewN q)).mono fun _ _ ⟨h1, h2⟩ => ⟨h1, q, h2⟩
  have KQ := Lib.hid KQ
  obtain ⟨n, hn⟩ : ∃ n, n = (fl (A ++ B)).length := ⟨_, rfl⟩
  obtain ⟨m, hm⟩ : ∃ m, m = (fl A).length := ⟨_, rfl⟩
  rw [← hn] at KQ
  rw [← hm] at c1
  have HN := Lib.hid (And.intro hn hm)
  clear hn hm KL
  go_wp2_with fail
  go_quiet ((go_at_call 40; exact KQ.out _))
  have H2 : Aside (Bu (w1.drewN nq) e b g N A B ∧ Stp [] W [] (w1.drewN nq) ∧ Stp [] w0 [] (w1.drewN nq)) := ⟨H1.out.1.drewN nq, H1.out.2.1.trans (Stp.drewN _ _ _), H1.out.2.2.trans (Stp.drewN _ _ _)⟩
  generalize w1.drewN nq = w2 at *
  clear c1 hc H1 KQ
  have hc := (hk0.out _ H2.out.2.2).2
  have KC := Lib.hid (KC.out w2 H2.out.1)
  go_wp2_with fail
  refine KC.out.mono ?_
  rintro _ w3 ⟨rfl, h3, s3⟩
  have KM := KM.out w3 h3
  have c1 := h3.c1
  have H3 := Lib.hid (And.intro h3 ((H2.out.2.1.more (fun k hk => by cases hk)).trans s3))
  obtain ⟨n', hn'⟩ : ∃ n', n' = (fl (r.A ++ r.B)).length := ⟨_, rfl⟩
  obtain ⟨m', hm'⟩ : ∃ m', m' = (fl r.A).length := ⟨_, rfl⟩
  rw [← hn'] at KM
  rw [← hm'] at c1
  have KM := Lib.hid KM
  have HN' := Lib.hid (And.intro hn' hm')
  clear h3 s3 hn' hm' KC hc
  by_cases p1 : m' = m
  · have q1 : ((m' : Int) != (m : Int)) = false := by simp [p1]
    by_cases p2 : n' = n
    · have q2 : ((n' : Int) != (n : Int)) = false := by simp [p2]
      have HV : Hid (chg r A B = false) := Lib.hid (by rw [← HG.out]; exact chgB_same (by rw [← HN'.out.2, ← HN.out.2]; exact p1) (by rw [← HN'.out.1, ← HN.out.1]; exact p2))
      clear p1 p2
      go_wp2_with fail
      refine KM.out.mono ?_
      rintro _ _ ⟨rfl, rfl⟩
      go_wp2
      go_ret2
      exact ⟨by rw [HV.out]; rfl, H3.out.1, H3.out.2⟩
    · have q2 : ((n' : Int) != (n : Int)) = true := by rw [bne_iff_ne]; omega
      have HV : Hid (chg r A B = true) := Lib.hid (by rw [← HG.out]; exact chgB_len (by rw [← HN'.out.1, ← HN.out.1]; exact p2))
      clear p1 p2
      go_wp2_with fail
      refine KM.out.mono ?_
      rintro _ _ ⟨rfl, rfl⟩
      go_wp2
      go_ret2
      exact ⟨by rw [HV.out]; rfl, H3.out.1, H3.out.2⟩
  · have q1 : ((m' : Int) != (m : Int)) = true := by rw [bne_iff_ne]; omega
    have HV : Hid (chg r A B = true) := Lib.hid (by rw [← HG.out]; exact chgB_place (by rw [← HN'.out.2, ← HN.out.2]; exact p1))
    clear p1
    go_wp2
    go_ret2
    exact ⟨by rw [HV.out]; rfl, H3.out.1, H3.out.2⟩
set_option maxRecDepth 100000 in
theorem do_4 (h : Bu W e b g N A B) (c : Int) (r : Rs) (hr : r = doS N 4 c A B) : Calls Tryd.prog 21 #[.pointer (some ⟨e, 0, none⟩), kv 4 c] W (Done e b g N r A B W) := by
  have K0 := Lib.hid doings_run
  have KC : ∀ W', Bu W' e b g N A B → Calls Tryd.prog 64 #[.pointer (some ⟨e, 0, none⟩), .int .i64 c] W' (Did e b g N r W') := fun W' k => by
    rw [hr]
    exact left_run k c
  have KC := Lib.hid KC
  have KL := Lib.hid (fun W' (k : Bu W' e b g N A B) => blen_run k)
  have KM := Lib.hid (fun W' (k : Bu W' e b g N r.A r.B) => blen_run k)
  have hg := doS_chg N 4 c A B
  rw [← hr] at hg
  have HG := Lib.hid hg
  have H := Lib.hid h
  unfold kv
  clear hg h hr
  go_enter Tryd.func21, Tryd.ntmps21
  go_wp2_with fail
  have hA := heap_alloc_new W (.cells #[.int .i64 4, .int .i64 c] 47)
  have H0 : Aside (Stp [] W [] (W.alloc (.cells #[.int .i64 4, .int .i64 c] 47)) ∧ W.heap.size < (W.alloc (.cells #[.int .i64 4, .int .i64 c] 47)).heap.size) := ⟨Stp.alloc _ _ _, by simp⟩
  generalize W.alloc (.cells #[.int .i64 4, .int .i64 c] 47) = w0 at *
  generalize W.heap.size = gk at *
  have hk0 : Aside (∀ W', Stp [] w0 [] W' → W'.cell? ⟨gk, 0, none⟩ = some (.int .i64 4) ∧ W'.cell? ⟨gk, 1, none⟩ = some (.int .i64 c)) := fun W' hs => by
    have h1 := (hs.block gk H0.out.2 (by simp)).trans hA
    exact ⟨by rw [cell_of_row W' gk 0 _ _ _ h1]; rfl, by rw [cell_of_row W' gk 1 _ _ _ h1]; rfl⟩
  have hcur : Stp [] w0 [] w0.drew := Stp.drew _ _
  clear hA
  go_region_held3 (fun W' => W'.cell? ⟨gk, 0, none⟩ = some (.int .i64 4))
    (first | exact (hk0.out _ hcur).1 | assumption)
    (first
      | (go_at_call 49; refine (K0.out _).mono ?_; rintro _ w1 ⟨t, rfl, ho, s1⟩; replace hcur := hcur.trans s1; have hlk := OM.look ho 4 (by decide) _ rfl; clear s1 ho))
  have H1 : Aside (Bu w1 e b g N A B ∧ Stp [] W [] w1 ∧ Stp [] w0 [] w1) := ⟨H.out.stays (H0.out.1.trans hcur), H0.out.1.trans hcur, hcur⟩
  clear K0 hcur hlk
  have c1 := H1.out.1.c1
  have hc := (hk0.out _ H1.out.2.2).2
  have KQ : ∀ q, Calls Tryd.prog 40 #[.pointer (some ⟨e, 0, none⟩)] (w1.drewN q) fun en w' => en = .returned (.int .i64 ((fl (A ++ B)).length : Int)) ∧ ∃ m, w' = w1.drewN m := fun q => (KL.out _ (H1.out.1.drewN q)).mono fun _ _ ⟨h1, h2⟩ => ⟨h1, q, h2⟩
  have KQ := Lib.hid KQ
  obtain ⟨n, hn⟩ : ∃ n, n = (fl (A ++ B)).length := ⟨_, rfl⟩
  obtain ⟨m, hm⟩ : ∃ m, m = (fl A).length := ⟨_, rfl⟩
  rw [← hn] at KQ
  rw [← hm] at c1
  have HN := Lib.hid (And.intro hn hm)
  clear hn hm KL
  go_wp2_with fail
  go_quiet ((go_at_call 40; exact KQ.out _))
  have H2 : Aside (Bu (w1.drewN nq) e b g N A B ∧ Stp [] W [] (w1.drewN nq) ∧ Stp [] w0 [] (w1.drewN nq)) := ⟨H1.out.1.drewN nq, H1.out.2.1.trans (Stp.drewN _ _ _), H1.out.2.2.trans (Stp.drewN _ _ _)⟩
  generalize w1.drewN nq = w2 at *
  clear c1 hc H1 KQ
  have hc := (hk0.out _ H2.out.2.2).2
  have KC := Lib.hid (KC.out w2 H2.out.1)
  go_wp2_with fail
  refine KC.out.mono ?_
  rintro _ w3 ⟨rfl, h3, s3⟩
  have KM := KM.out w3 h3
  have c1 := h3.c1
  have H3 := Lib.hid (And.intro h3 ((H2.out.2.1.more (fun k hk => by cases hk)).trans s3))
  obtain ⟨n', hn'⟩ : ∃ n', n' = (fl (r.A ++ r.B)).length := ⟨_, rfl⟩
  obtain ⟨m', hm'⟩ : ∃ m', m' = (fl r.A).length := ⟨_, rfl⟩
  rw [← hn'] at KM
  rw [← hm'] at c1
  have KM := Lib.hid KM
  have HN' := Lib.hid (And.intro hn' hm')
  clear h3 s3 hn' hm' KC hc
  by_cases p1 : m' = m
  · have q1 : ((m' : Int) != (m : Int)) = false := by simp [p1]
    by_cases p2 : n' = n
    · have q2 : ((n' : Int) != (n : Int)) = false := by simp [p2]
      have HV : Hid (chg r A B = false) := Lib.hid (by rw [← HG.out]; exact chgB_same (by rw [← HN'.out.2, ← HN.out.2]; exact p1) (by rw [← HN'.out.1, ← HN.out.1]; exact p2))
      clear p1 p2
      go_wp2_with fail
      refine KM.out.mono ?_
      rintro _ _ ⟨rfl, rfl⟩
      go_wp2
      go_ret2
      exact ⟨by rw [HV.out]; rfl, H3.out.1, H3.out.2⟩
    · have q2 : ((n' : Int) != (n : Int)) = true := by rw [bne_iff_ne]; omega
      have HV : Hid (chg r A B = true) := Lib.hid (by rw [← HG.out]; exact chgB_len (by rw [← HN'.out.1, ← HN.out.1]; exact p2))
      clear p1 p2
      go_wp2_with fail
      refine KM.out.mono ?_
      rintro _ _ ⟨rfl, rfl⟩
      go_wp2
      go_ret2
      exact ⟨by rw [HV.out]; rfl, H3.out.1, H3.out.2⟩
  · have q1 : ((m' : Int) != (m : Int)) = true := by rw [bne_iff_ne]; omega
    have HV : Hid (chg r A B = true) := Lib.hid (by rw [← HG.out]; exact chgB_place (by rw [← HN'.out.2, ← HN.out.2]; exact p1))
    clear p1
    go_wp2
    go_ret2
    exact ⟨by rw [HV.out]; rfl, H3.out.1, H3.out.2⟩
set_option maxRecDepth 100000 in
theorem do_5 (h : Bu W e b g N A B) (c : Int) (r : Rs) (hr : r = doS N 5 c A B) : Calls Tryd.prog 21 #[.pointer (some ⟨e, 0, none⟩), kv 5 c] W (Done e b g N r A B W) := by
  have K0 := Lib.hid doings_run
  have KC : ∀ W', Bu W' e b g N A B → Calls Tryd.prog 65 #[.pointer (some ⟨e, 0, none⟩), .int .i64 c] W' (Did e b g N r W') := fun W' k => by
    rw [hr]
    exact right_run k c
  have KC := Lib.hid KC
  have KL := Lib.hid (fun W' (k : Bu W' e b g N A B) => blen_run k)
  have KM := Lib.hid (fun W' (k : Bu W' e b g N r.A r.B) => blen_run k)
  have hg := doS_chg N 5 c A B
  rw [← hr] at hg
  have HG := Lib.hid hg
  have H := Lib.hid h
  unfold kv
  clear hg h hr
  go_enter Tryd.func21, Tryd.ntmps21
  go_wp2_with fail
  have hA := heap_alloc_new W (.cells #[.int .i64 5, .int .i64 c] 47)
  have H0 : Aside (Stp [] W [] (W.alloc (.cells #[.int .i64 5, .int .i64 c] 47)) ∧ W.heap.size < (W.alloc (.cells #[.int .i64 5, .int .i64 c] 47)).heap.size) := ⟨Stp.alloc _ _ _, by simp⟩
  generalize W.alloc (.cells #[.int .i64 5, .int .i64 c] 47) = w0 at *
  generalize W.heap.size = gk at *
  have hk0 : Aside (∀ W', Stp [] w0 [] W' → W'.cell? ⟨gk, 0, none⟩ = some (.int .i64 5) ∧ W'.cell? ⟨gk, 1, none⟩ = some (.int .i64 c)) := fun W' hs => by
    have h1 := (hs.block gk H0.out.2 (by simp)).trans hA
    exact ⟨by rw [cell_of_row W' gk 0 _ _ _ h1]; rfl, by rw [cell_of_row W' gk 1 _ _ _ h1]; rfl⟩
  have hcur : Stp [] w0 [] w0.drew := Stp.drew _ _
  clear hA
  go_region_held3 (fun W' => W'.cell? ⟨gk, 0, none⟩ = some (.int .i64 5))
    (first | exact (hk0.out _ hcur).1 | assumption)
    (first
      | (go_at_call 49; refine (K0.out _).mono ?_; rintro _ w1 ⟨t, rfl, ho, s1⟩; replace hcur := hcur.trans s1; have hlk := OM.look ho 5 (by decide) _ rfl; clear s1 ho))
  have H1 : Aside (Bu w1 e b g N A B ∧ Stp [] W [] w1 ∧ Stp [] w0 [] w1) := ⟨H.out.stays (H0.out.1.trans hcur), H0.out.1.trans hcur, hcur⟩
  clear K0 hcur hlk
  have c1 := H1.out.1.c1
  have hc := (hk0.out _ H1.out.2.2).2
  have KQ : ∀ q, Calls Tryd.prog 40 #[.pointer (some ⟨e, 0, none⟩)] (w1.drewN q) fun en w' => en = .returned (.int .i64 ((fl (A ++ B)).length : Int)) ∧ ∃ m, w' = w1.drewN m := fun q => (KL.out _ (H1.out.1.drewN q)).mono fun _ _ ⟨h1, h2⟩ => ⟨h1, q, h2⟩
  have KQ := Lib.hid KQ
  obtain ⟨n, hn⟩ : ∃ n, n = (fl (A ++ B)).length := ⟨_, rfl⟩
  obtain ⟨m, hm⟩ : ∃ m, m = (fl A).length := ⟨_, rfl⟩
  rw [← hn] at KQ
  rw [← hm] at c1
  have HN := Lib.hid (And.intro hn hm)
  clear hn hm KL
  go_wp2_with fail
  go_quiet ((go_at_call 40; exact KQ.out _))
  have H2 : Aside (Bu (w1.drewN nq) e b g N A B ∧ Stp [] W [] (w1.drewN nq) ∧ Stp [] w0 [] (w1.drewN nq)) := ⟨H1.out.1.drewN nq, H1.out.2.1.trans (Stp.drewN _ _ _), H1.out.2.2.trans (Stp.drewN _ _ _)⟩
  generalize w1.drewN nq = w2 at *
  clear c1 hc H1 KQ
  have hc := (hk0.out _ H2.out.2.2).2
  have KC := Lib.hid (KC.out w2 H2.out.1)
  go_wp2_with fail
  refine KC.out.mono ?_
  rintro _ w3 ⟨rfl, h3, s3⟩
  have KM := KM.out w3 h3
  have c1 := h3.c1
  have H3 := Lib.hid (And.intro h3 ((H2.out.2.1.more (fun k hk => by cases hk)).trans s3))
  obtain ⟨n', hn'⟩ : ∃ n', n' = (fl (r.A ++ r.B)).length := ⟨_, rfl⟩
  obtain ⟨m', hm'⟩ : ∃ m', m' = (fl r.A).length := ⟨_, rfl⟩
  rw [← hn'] at KM
  rw [← hm'] at c1
  have KM := Lib.hid KM
  have HN' := Lib.hid (And.intro hn' hm')
  clear h3 s3 hn' hm' KC hc
  by_cases p1 : m' = m
  · have q1 : ((m' : Int) != (m : Int)) = false := by simp [p1]
    by_cases p2 : n' = n
    · have q2 : ((n' : Int) != (n : Int)) = false := by simp [p2]
      have HV : Hid (chg r A B = false) := Lib.hid (by rw [← HG.out]; exact chgB_same (by rw [← HN'.out.2, ← HN.out.2]; exact p1) (by rw [← HN'.out.1, ← HN.out.1]; exact p2))
      clear p1 p2
      go_wp2_with fail
      refine KM.out.mono ?_
      rintro _ _ ⟨rfl, rfl⟩
      go_wp2
      go_ret2
      exact ⟨by rw [HV.out]; rfl, H3.out.1, H3.out.2⟩
    · have q2 : ((n' : Int) != (n : Int)) = true := by rw [bne_iff_ne]; omega
      have HV : Hid (chg r A B = true) := Lib.hid (by rw [← HG.out]; exact chgB_len (by rw [← HN'.out.1, ← HN.out.1]; exact p2))
      clear p1 p2
      go_wp2_with fail
      refine KM.out.mono ?_
      rintro _ _ ⟨rfl, rfl⟩
      go_wp2
      go_ret2
      exact ⟨by rw [HV.out]; rfl, H3.out.1, H3.out.2⟩
  · have q1 : ((m' : Int) != (m : Int)) = true := by rw [bne_iff_ne]; omega
    have HV : Hid (chg r A B = true) := Lib.hid (by rw [← HG.out]; exact chgB_place (by rw [← HN'.out.2, ← HN.out.2]; exact p1))
    clear p1
    go_wp2
    go_ret2
    exact ⟨by rw [HV.out]; rfl, H3.out.1, H3.out.2⟩
set_option maxRecDepth 100000 in
theorem do_6 (h : Bu W e b g N A B) (c : Int) (r : Rs) (hr : r = doS N 6 c A B) : Calls Tryd.prog 21 #[.pointer (some ⟨e, 0, none⟩), kv 6 c] W (Done e b g N r A B W) := by
  have K0 := Lib.hid doings_run
  have KC : ∀ W', Bu W' e b g N A B → Calls Tryd.prog 66 #[.pointer (some ⟨e, 0, none⟩), .int .i64 c] W' (Did e b g N r W') := fun W' k => by
    rw [hr]
    exact home_run k c
  have KC := Lib.hid KC
  have KL := Lib.hid (fun W' (k : Bu W' e b g N A B) => blen_run k)
  have KM := Lib.hid (fun W' (k : Bu W' e b g N r.A r.B) => blen_run k)
  have hg := doS_chg N 6 c A B
  rw [← hr] at hg
  have HG := Lib.hid hg
  have H := Lib.hid h
  unfold kv
  clear hg h hr
  go_enter Tryd.func21, Tryd.ntmps21
  go_wp2_with fail
  have hA := heap_alloc_new W (.cells #[.int .i64 6, .int .i64 c] 47)
  have H0 : Aside (Stp [] W [] (W.alloc (.cells #[.int .i64 6, .int .i64 c] 47)) ∧ W.heap.size < (W.alloc (.cells #[.int .i64 6, .int .i64 c] 47)).heap.size) := ⟨Stp.alloc _ _ _, by simp⟩
  generalize W.alloc (.cells #[.int .i64 6, .int .i64 c] 47) = w0 at *
  generalize W.heap.size = gk at *
  have hk0 : Aside (∀ W', Stp [] w0 [] W' → W'.cell? ⟨gk, 0, none⟩ = some (.int .i64 6) ∧ W'.cell? ⟨gk, 1, none⟩ = some (.int .i64 c)) := fun W' hs => by
    have h1 := (hs.block gk H0.out.2 (by simp)).trans hA
    exact ⟨by rw [cell_of_row W' gk 0 _ _ _ h1]; rfl, by rw [cell_of_row W' gk 1 _ _ _ h1]; rfl⟩
  have hcur : Stp [] w0 [] w0.drew := Stp.drew _ _
  clear hA
  go_region_held3 (fun W' => W'.cell? ⟨gk, 0, none⟩ = some (.int .i64 6))
    (first | exact (hk0.out _ hcur).1 | assumption)
    (first
      | (go_at_call 49; refine (K0.out _).mono ?_; rintro _ w1 ⟨t, rfl, ho, s1⟩; replace hcur := hcur.trans s1; have hlk := OM.look ho 6 (by decide) _ rfl; clear s1 ho))
  have H1 : Aside (Bu w1 e b g N A B ∧ Stp [] W [] w1 ∧ Stp [] w0 [] w1) := ⟨H.out.stays (H0.out.1.trans hcur), H0.out.1.trans hcur, hcur⟩
  clear K0 hcur hlk
  have c1 := H1.out.1.c1
  have hc := (hk0.out _ H1.out.2.2).2
  have KQ : ∀ q, Calls Tryd.prog 40 #[.pointer (some ⟨e, 0, none⟩)] (w1.drewN q) fun en w' => en = .returned (.int .i64 ((fl (A ++ B)).length : Int)) ∧ ∃ m, w' = w1.drewN m := fun q => (KL.out _ (H1.out.1.drewN q)).mono fun _ _ ⟨h1, h2⟩ => ⟨h1, q, h2⟩
  have KQ := Lib.hid KQ
  obtain ⟨n, hn⟩ : ∃ n, n = (fl (A ++ B)).length := ⟨_, rfl⟩
  obtain ⟨m, hm⟩ : ∃ m, m = (fl A).length := ⟨_, rfl⟩
  rw [← hn] at KQ
  rw [← hm] at c1
  have HN := Lib.hid (And.intro hn hm)
  clear hn hm KL
  go_wp2_with fail
  go_quiet ((go_at_call 40; exact KQ.out _))
  have H2 : Aside (Bu (w1.drewN nq) e b g N A B ∧ Stp [] W [] (w1.drewN nq) ∧ Stp [] w0 [] (w1.drewN nq)) := ⟨H1.out.1.drewN nq, H1.out.2.1.trans (Stp.drewN _ _ _), H1.out.2.2.trans (Stp.drewN _ _ _)⟩
  generalize w1.drewN nq = w2 at *
  clear c1 hc H1 KQ
  have hc := (hk0.out _ H2.out.2.2).2
  have KC := Lib.hid (KC.out w2 H2.out.1)
  go_wp2_with fail
  refine KC.out.mono ?_
  rintro _ w3 ⟨rfl, h3, s3⟩
  have KM := KM.out w3 h3
  have c1 := h3.c1
  have H3 := Lib.hid (And.intro h3 ((H2.out.2.1.more (fun k hk => by cases hk)).trans s3))
  obtain ⟨n', hn'⟩ : ∃ n', n' = (fl (r.A ++ r.B)).length := ⟨_, rfl⟩
  obtain ⟨m', hm'⟩ : ∃ m', m' = (fl r.A).length := ⟨_, rfl⟩
  rw [← hn'] at KM
  rw [← hm'] at c1
  have KM := Lib.hid KM
  have HN' := Lib.hid (And.intro hn' hm')
  clear h3 s3 hn' hm' KC hc
  by_cases p1 : m' = m
  · have q1 : ((m' : Int) != (m : Int)) = false := by simp [p1]
    by_cases p2 : n' = n
    · have q2 : ((n' : Int) != (n : Int)) = false := by simp [p2]
      have HV : Hid (chg r A B = false) := Lib.hid (by rw [← HG.out]; exact chgB_same (by rw [← HN'.out.2, ← HN.out.2]; exact p1) (by rw [← HN'.out.1, ← HN.out.1]; exact p2))
      clear p1 p2
      go_wp2_with fail
      refine KM.out.mono ?_
      rintro _ _ ⟨rfl, rfl⟩
      go_wp2
      go_ret2
      exact ⟨by rw [HV.out]; rfl, H3.out.1, H3.out.2⟩
    · have q2 : ((n' : Int) != (n : Int)) = true := by rw [bne_iff_ne]; omega
      have HV : Hid (chg r A B = true) := Lib.hid (by rw [← HG.out]; exact chgB_len (by rw [← HN'.out.1, ← HN.out.1]; exact p2))
      clear p1 p2
      go_wp2_with fail
      refine KM.out.mono ?_
      rintro _ _ ⟨rfl, rfl⟩
      go_wp2
      go_ret2
      exact ⟨by rw [HV.out]; rfl, H3.out.1, H3.out.2⟩
  · have q1 : ((m' : Int) != (m : Int)) = true := by rw [bne_iff_ne]; omega
    have HV : Hid (chg r A B = true) := Lib.hid (by rw [← HG.out]; exact chgB_place (by rw [← HN'.out.2, ← HN.out.2]; exact p1))
    clear p1
    go_wp2
    go_ret2
    exact ⟨by rw [HV.out]; rfl, H3.out.1, H3.out.2⟩
set_option maxRecDepth 100000 in
theorem do_7 (h : Bu W e b g N A B) (c : Int) (r : Rs) (hr : r = doS N 7 c A B) : Calls Tryd.prog 21 #[.pointer (some ⟨e, 0, none⟩), kv 7 c] W (Done e b g N r A B W) := by
  have K0 := Lib.hid doings_run
  have KC : ∀ W', Bu W' e b g N A B → Calls Tryd.prog 67 #[.pointer (some ⟨e, 0, none⟩), .int .i64 c] W' (Did e b g N r W') := fun W' k => by
    rw [hr]
    exact last_run k c
  have KC := Lib.hid KC
  have KL := Lib.hid (fun W' (k : Bu W' e b g N A B) => blen_run k)
  have KM := Lib.hid (fun W' (k : Bu W' e b g N r.A r.B) => blen_run k)
  have hg := doS_chg N 7 c A B
  rw [← hr] at hg
  have HG := Lib.hid hg
  have H := Lib.hid h
  unfold kv
  clear hg h hr
  go_enter Tryd.func21, Tryd.ntmps21
  go_wp2_with fail
  have hA := heap_alloc_new W (.cells #[.int .i64 7, .int .i64 c] 47)
  have H0 : Aside (Stp [] W [] (W.alloc (.cells #[.int .i64 7, .int .i64 c] 47)) ∧ W.heap.size < (W.alloc (.cells #[.int .i64 7, .int .i64 c] 47)).heap.size) := ⟨Stp.alloc _ _ _, by simp⟩
  generalize W.alloc (.cells #[.int .i64 7, .int .i64 c] 47) = w0 at *
  generalize W.heap.size = gk at *
  have hk0 : Aside (∀ W', Stp [] w0 [] W' → W'.cell? ⟨gk, 0, none⟩ = some (.int .i64 7) ∧ W'.cell? ⟨gk, 1, none⟩ = some (.int .i64 c)) := fun W' hs => by
    have h1 := (hs.block gk H0.out.2 (by simp)).trans hA
    exact ⟨by rw [cell_of_row W' gk 0 _ _ _ h1]; rfl, by rw [cell_of_row W' gk 1 _ _ _ h1]; rfl⟩
  have hcur : Stp [] w0 [] w0.drew := Stp.drew _ _
  clear hA
  go_region_held3 (fun W' => W'.cell? ⟨gk, 0, none⟩ = some (.int .i64 7))
    (first | exact (hk0.out _ hcur).1 | assumption)
    (first
      | (go_at_call 49; refine (K0.out _).mono ?_; rintro _ w1 ⟨t, rfl, ho, s1⟩; replace hcur := hcur.trans s1; have hlk := OM.look ho 7 (by decide) _ rfl; clear s1 ho))
  have H1 : Aside (Bu w1 e b g N A B ∧ Stp [] W [] w1 ∧ Stp [] w0 [] w1) := ⟨H.out.stays (H0.out.1.trans hcur), H0.out.1.trans hcur, hcur⟩
  clear K0 hcur hlk
  have c1 := H1.out.1.c1
  have hc := (hk0.out _ H1.out.2.2).2
  have KQ : ∀ q, Calls Tryd.prog 40 #[.pointer (some ⟨e, 0, none⟩)] (w1.drewN q) fun en w' => en = .returned (.int .i64 ((fl (A ++ B)).length : Int)) ∧ ∃ m, w' = w1.drewN m := fun q => (KL.out _ (H1.out.1.drewN q)).mono fun _ _ ⟨h1, h2⟩ => ⟨h1, q, h2⟩
  have KQ := Lib.hid KQ
  obtain ⟨n, hn⟩ : ∃ n, n = (fl (A ++ B)).length := ⟨_, rfl⟩
  obtain ⟨m, hm⟩ : ∃ m, m = (fl A).length := ⟨_, rfl⟩
  rw [← hn] at KQ
  rw [← hm] at c1
  have HN := Lib.hid (And.intro hn hm)
  clear hn hm KL
  go_wp2_with fail
  go_quiet ((go_at_call 40; exact KQ.out _))
  have H2 : Aside (Bu (w1.drewN nq) e b g N A B ∧ Stp [] W [] (w1.drewN nq) ∧ Stp [] w0 [] (w1.drewN nq)) := ⟨H1.out.1.drewN nq, H1.out.2.1.trans (Stp.drewN _ _ _), H1.out.2.2.trans (Stp.drewN _ _ _)⟩
  generalize w1.drewN nq = w2 at *
  clear c1 hc H1 KQ
  have hc := (hk0.out _ H2.out.2.2).2
  have KC := Lib.hid (KC.out w2 H2.out.1)
  go_wp2_with fail
  refine KC.out.mono ?_
  rintro _ w3 ⟨rfl, h3, s3⟩
  have KM := KM.out w3 h3
  have c1 := h3.c1
  have H3 := Lib.hid (And.intro h3 ((H2.out.2.1.more (fun k hk => by cases hk)).trans s3))
  obtain ⟨n', hn'⟩ : ∃ n', n' = (fl (r.A ++ r.B)).length := ⟨_, rfl⟩
  obtain ⟨m', hm'⟩ : ∃ m', m' = (fl r.A).length := ⟨_, rfl⟩
  rw [← hn'] at KM
  rw [← hm'] at c1
  have KM := Lib.hid KM
  have HN' := Lib.hid (And.intro hn' hm')
  clear h3 s3 hn' hm' KC hc
  by_cases p1 : m' = m
  · have q1 : ((m' : Int) != (m : Int)) = false := by simp [p1]
    by_cases p2 : n' = n
    · have q2 : ((n' : Int) != (n : Int)) = false := by simp [p2]
      have HV : Hid (chg r A B = false) := Lib.hid (by rw [← HG.out]; exact chgB_same (by rw [← HN'.out.2, ← HN.out.2]; exact p1) (by rw [← HN'.out.1, ← HN.out.1]; exact p2))
      clear p1 p2
      go_wp2_with fail
      refine KM.out.mono ?_
      rintro _ _ ⟨rfl, rfl⟩
      go_wp2
      go_ret2
      exact ⟨by rw [HV.out]; rfl, H3.out.1, H3.out.2⟩
    · have q2 : ((n' : Int) != (n : Int)) = true := by rw [bne_iff_ne]; omega
      have HV : Hid (chg r A B = true) := Lib.hid (by rw [← HG.out]; exact chgB_len (by rw [← HN'.out.1, ← HN.out.1]; exact p2))
      clear p1 p2
      go_wp2_with fail
      refine KM.out.mono ?_
      rintro _ _ ⟨rfl, rfl⟩
      go_wp2
      go_ret2
      exact ⟨by rw [HV.out]; rfl, H3.out.1, H3.out.2⟩
  · have q1 : ((m' : Int) != (m : Int)) = true := by rw [bne_iff_ne]; omega
    have HV : Hid (chg r A B = true) := Lib.hid (by rw [← HG.out]; exact chgB_place (by rw [← HN'.out.2, ← HN.out.2]; exact p1))
    clear p1
    go_wp2
    go_ret2
    exact ⟨by rw [HV.out]; rfl, H3.out.1, H3.out.2⟩
set_option maxRecDepth 100000 in
theorem do_8 (h : Bu W e b g N A B) (c : Int) (r : Rs) (hr : r = doS N 8 c A B) : Calls Tryd.prog 21 #[.pointer (some ⟨e, 0, none⟩), kv 8 c] W (Done e b g N r A B W) := by
  have K0 := Lib.hid doings_run
  have KC : ∀ W', Bu W' e b g N A B → Calls Tryd.prog 68 #[.pointer (some ⟨e, 0, none⟩), .int .i64 c] W' (Did e b g N r W') := fun W' k => by
    rw [hr]
    exact killStart_run k c
  have KC := Lib.hid KC
  have KL := Lib.hid (fun W' (k : Bu W' e b g N A B) => blen_run k)
  have KM := Lib.hid (fun W' (k : Bu W' e b g N r.A r.B) => blen_run k)
  have hg := doS_chg N 8 c A B
  rw [← hr] at hg
  have HG := Lib.hid hg
  have H := Lib.hid h
  unfold kv
  clear hg h hr
  go_enter Tryd.func21, Tryd.ntmps21
  go_wp2_with fail
  have hA := heap_alloc_new W (.cells #[.int .i64 8, .int .i64 c] 47)
  have H0 : Aside (Stp [] W [] (W.alloc (.cells #[.int .i64 8, .int .i64 c] 47)) ∧ W.heap.size < (W.alloc (.cells #[.int .i64 8, .int .i64 c] 47)).heap.size) := ⟨Stp.alloc _ _ _, by simp⟩
  generalize W.alloc (.cells #[.int .i64 8, .int .i64 c] 47) = w0 at *
  generalize W.heap.size = gk at *
  have hk0 : Aside (∀ W', Stp [] w0 [] W' → W'.cell? ⟨gk, 0, none⟩ = some (.int .i64 8) ∧ W'.cell? ⟨gk, 1, none⟩ = some (.int .i64 c)) := fun W' hs => by
    have h1 := (hs.block gk H0.out.2 (by simp)).trans hA
    exact ⟨by rw [cell_of_row W' gk 0 _ _ _ h1]; rfl, by rw [cell_of_row W' gk 1 _ _ _ h1]; rfl⟩
  have hcur : Stp [] w0 [] w0.drew := Stp.drew _ _
  clear hA
  go_region_held3 (fun W' => W'.cell? ⟨gk, 0, none⟩ = some (.int .i64 8))
    (first | exact (hk0.out _ hcur).1 | assumption)
    (first
      | (go_at_call 49; refine (K0.out _).mono ?_; rintro _ w1 ⟨t, rfl, ho, s1⟩; replace hcur := hcur.trans s1; have hlk := OM.look ho 8 (by decide) _ rfl; clear s1 ho))
  have H1 : Aside (Bu w1 e b g N A B ∧ Stp [] W [] w1 ∧ Stp [] w0 [] w1) := ⟨H.out.stays (H0.out.1.trans hcur), H0.out.1.trans hcur, hcur⟩
  clear K0 hcur hlk
  have c1 := H1.out.1.c1
  have hc := (hk0.out _ H1.out.2.2).2
  have KQ : ∀ q, Calls Tryd.prog 40 #[.pointer (some ⟨e, 0, none⟩)] (w1.drewN q) fun en w' => en = .returned (.int .i64 ((fl (A ++ B)).length : Int)) ∧ ∃ m, w' = w1.drewN m := fun q => (KL.out _ (H1.out.1.drewN q)).mono fun _ _ ⟨h1, h2⟩ => ⟨h1, q, h2⟩
  have KQ := Lib.hid KQ
  obtain ⟨n, hn⟩ : ∃ n, n = (fl (A ++ B)).length := ⟨_, rfl⟩
  obtain ⟨m, hm⟩ : ∃ m, m = (fl A).length := ⟨_, rfl⟩
  rw [← hn] at KQ
  rw [← hm] at c1
  have HN := Lib.hid (And.intro hn hm)
  clear hn hm KL
  go_wp2_with fail
  go_quiet ((go_at_call 40; exact KQ.out _))
  have H2 : Aside (Bu (w1.drewN nq) e b g N A B ∧ Stp [] W [] (w1.drewN nq) ∧ Stp [] w0 [] (w1.drewN nq)) := ⟨H1.out.1.drewN nq, H1.out.2.1.trans (Stp.drewN _ _ _), H1.out.2.2.trans (Stp.drewN _ _ _)⟩
  generalize w1.drewN nq = w2 at *
  clear c1 hc H1 KQ
  have hc := (hk0.out _ H2.out.2.2).2
  have KC := Lib.hid (KC.out w2 H2.out.1)
  go_wp2_with fail
  refine KC.out.mono ?_
  rintro _ w3 ⟨rfl, h3, s3⟩
  have KM := KM.out w3 h3
  have c1 := h3.c1
  have H3 := Lib.hid (And.intro h3 ((H2.out.2.1.more (fun k hk => by cases hk)).trans s3))
  obtain ⟨n', hn'⟩ : ∃ n', n' = (fl (r.A ++ r.B)).length := ⟨_, rfl⟩
  obtain ⟨m', hm'⟩ : ∃ m', m' = (fl r.A).length := ⟨_, rfl⟩
  rw [← hn'] at KM
  rw [← hm'] at c1
  have KM := Lib.hid KM
  have HN' := Lib.hid (And.intro hn' hm')
  clear h3 s3 hn' hm' KC hc
  by_cases p1 : m' = m
  · have q1 : ((m' : Int) != (m : Int)) = false := by simp [p1]
    by_cases p2 : n' = n
    · have q2 : ((n' : Int) != (n : Int)) = false := by simp [p2]
      have HV : Hid (chg r A B = false) := Lib.hid (by rw [← HG.out]; exact chgB_same (by rw [← HN'.out.2, ← HN.out.2]; exact p1) (by rw [← HN'.out.1, ← HN.out.1]; exact p2))
      clear p1 p2
      go_wp2_with fail
      refine KM.out.mono ?_
      rintro _ _ ⟨rfl, rfl⟩
      go_wp2
      go_ret2
      exact ⟨by rw [HV.out]; rfl, H3.out.1, H3.out.2⟩
    · have q2 : ((n' : Int) != (n : Int)) = true := by rw [bne_iff_ne]; omega
      have HV : Hid (chg r A B = true) := Lib.hid (by rw [← HG.out]; exact chgB_len (by rw [← HN'.out.1, ← HN.out.1]; exact p2))
      clear p1 p2
      go_wp2_with fail
      refine KM.out.mono ?_
      rintro _ _ ⟨rfl, rfl⟩
      go_wp2
      go_ret2
      exact ⟨by rw [HV.out]; rfl, H3.out.1, H3.out.2⟩
  · have q1 : ((m' : Int) != (m : Int)) = true := by rw [bne_iff_ne]; omega
    have HV : Hid (chg r A B = true) := Lib.hid (by rw [← HG.out]; exact chgB_place (by rw [← HN'.out.2, ← HN.out.2]; exact p1))
    clear p1
    go_wp2
    go_ret2
    exact ⟨by rw [HV.out]; rfl, H3.out.1, H3.out.2⟩
set_option maxRecDepth 100000 in
theorem do_9 (h : Bu W e b g N A B) (c : Int) (r : Rs) (hr : r = doS N 9 c A B) : Calls Tryd.prog 21 #[.pointer (some ⟨e, 0, none⟩), kv 9 c] W (Done e b g N r A B W) := by
  have K0 := Lib.hid doings_run
  have KC : ∀ W', Bu W' e b g N A B → Calls Tryd.prog 69 #[.pointer (some ⟨e, 0, none⟩), .int .i64 c] W' (Did e b g N r W') := fun W' k => by
    rw [hr]
    exact killEnd_run k c
  have KC := Lib.hid KC
  have KL := Lib.hid (fun W' (k : Bu W' e b g N A B) => blen_run k)
  have KM := Lib.hid (fun W' (k : Bu W' e b g N r.A r.B) => blen_run k)
  have hg := doS_chg N 9 c A B
  rw [← hr] at hg
  have HG := Lib.hid hg
  have H := Lib.hid h
  unfold kv
  clear hg h hr
  go_enter Tryd.func21, Tryd.ntmps21
  go_wp2_with fail
  have hA := heap_alloc_new W (.cells #[.int .i64 9, .int .i64 c] 47)
  have H0 : Aside (Stp [] W [] (W.alloc (.cells #[.int .i64 9, .int .i64 c] 47)) ∧ W.heap.size < (W.alloc (.cells #[.int .i64 9, .int .i64 c] 47)).heap.size) := ⟨Stp.alloc _ _ _, by simp⟩
  generalize W.alloc (.cells #[.int .i64 9, .int .i64 c] 47) = w0 at *
  generalize W.heap.size = gk at *
  have hk0 : Aside (∀ W', Stp [] w0 [] W' → W'.cell? ⟨gk, 0, none⟩ = some (.int .i64 9) ∧ W'.cell? ⟨gk, 1, none⟩ = some (.int .i64 c)) := fun W' hs => by
    have h1 := (hs.block gk H0.out.2 (by simp)).trans hA
    exact ⟨by rw [cell_of_row W' gk 0 _ _ _ h1]; rfl, by rw [cell_of_row W' gk 1 _ _ _ h1]; rfl⟩
  have hcur : Stp [] w0 [] w0.drew := Stp.drew _ _
  clear hA
  go_region_held3 (fun W' => W'.cell? ⟨gk, 0, none⟩ = some (.int .i64 9))
    (first | exact (hk0.out _ hcur).1 | assumption)
    (first
      | (go_at_call 49; refine (K0.out _).mono ?_; rintro _ w1 ⟨t, rfl, ho, s1⟩; replace hcur := hcur.trans s1; have hlk := OM.look ho 9 (by decide) _ rfl; clear s1 ho))
  have H1 : Aside (Bu w1 e b g N A B ∧ Stp [] W [] w1 ∧ Stp [] w0 [] w1) := ⟨H.out.stays (H0.out.1.trans hcur), H0.out.1.trans hcur, hcur⟩
  clear K0 hcur hlk
  have c1 := H1.out.1.c1
  have hc := (hk0.out _ H1.out.2.2).2
  have KQ : ∀ q, Calls Tryd.prog 40 #[.pointer (some ⟨e, 0, none⟩)] (w1.drewN q) fun en w' => en = .returned (.int .i64 ((fl (A ++ B)).length : Int)) ∧ ∃ m, w' = w1.drewN m := fun q => (KL.out _ (H1.out.1.drewN q)).mono fun _ _ ⟨h1, h2⟩ => ⟨h1, q, h2⟩
  have KQ := Lib.hid KQ
  obtain ⟨n, hn⟩ : ∃ n, n = (fl (A ++ B)).length := ⟨_, rfl⟩
  obtain ⟨m, hm⟩ : ∃ m, m = (fl A).length := ⟨_, rfl⟩
  rw [← hn] at KQ
  rw [← hm] at c1
  have HN := Lib.hid (And.intro hn hm)
  clear hn hm KL
  go_wp2_with fail
  go_quiet ((go_at_call 40; exact KQ.out _))
  have H2 : Aside (Bu (w1.drewN nq) e b g N A B ∧ Stp [] W [] (w1.drewN nq) ∧ Stp [] w0 [] (w1.drewN nq)) := ⟨H1.out.1.drewN nq, H1.out.2.1.trans (Stp.drewN _ _ _), H1.out.2.2.trans (Stp.drewN _ _ _)⟩
  generalize w1.drewN nq = w2 at *
  clear c1 hc H1 KQ
  have hc := (hk0.out _ H2.out.2.2).2
  have KC := Lib.hid (KC.out w2 H2.out.1)
  go_wp2_with fail
  refine KC.out.mono ?_
  rintro _ w3 ⟨rfl, h3, s3⟩
  have KM := KM.out w3 h3
  have c1 := h3.c1
  have H3 := Lib.hid (And.intro h3 ((H2.out.2.1.more (fun k hk => by cases hk)).trans s3))
  obtain ⟨n', hn'⟩ : ∃ n', n' = (fl (r.A ++ r.B)).length := ⟨_, rfl⟩
  obtain ⟨m', hm'⟩ : ∃ m', m' = (fl r.A).length := ⟨_, rfl⟩
  rw [← hn'] at KM
  rw [← hm'] at c1
  have KM := Lib.hid KM
  have HN' := Lib.hid (And.intro hn' hm')
  clear h3 s3 hn' hm' KC hc
  by_cases p1 : m' = m
  · have q1 : ((m' : Int) != (m : Int)) = false := by simp [p1]
    by_cases p2 : n' = n
    · have q2 : ((n' : Int) != (n : Int)) = false := by simp [p2]
      have HV : Hid (chg r A B = false) := Lib.hid (by rw [← HG.out]; exact chgB_same (by rw [← HN'.out.2, ← HN.out.2]; exact p1) (by rw [← HN'.out.1, ← HN.out.1]; exact p2))
      clear p1 p2
      go_wp2_with fail
      refine KM.out.mono ?_
      rintro _ _ ⟨rfl, rfl⟩
      go_wp2
      go_ret2
      exact ⟨by rw [HV.out]; rfl, H3.out.1, H3.out.2⟩
    · have q2 : ((n' : Int) != (n : Int)) = true := by rw [bne_iff_ne]; omega
      have HV : Hid (chg r A B = true) := Lib.hid (by rw [← HG.out]; exact chgB_len (by rw [← HN'.out.1, ← HN.out.1]; exact p2))
      clear p1 p2
      go_wp2_with fail
      refine KM.out.mono ?_
      rintro _ _ ⟨rfl, rfl⟩
      go_wp2
      go_ret2
      exact ⟨by rw [HV.out]; rfl, H3.out.1, H3.out.2⟩
  · have q1 : ((m' : Int) != (m : Int)) = true := by rw [bne_iff_ne]; omega
    have HV : Hid (chg r A B = true) := Lib.hid (by rw [← HG.out]; exact chgB_place (by rw [← HN'.out.2, ← HN.out.2]; exact p1))
    clear p1
    go_wp2
    go_ret2
    exact ⟨by rw [HV.out]; rfl, H3.out.1, H3.out.2⟩
set_option maxRecDepth 100000 in
theorem do_none (h : Bu W e b g N A B) (k c : Int) (hk : (Lit.int .i64 k).wf = true) (ht : cat k tab = none) : Calls Tryd.prog 21 #[.pointer (some ⟨e, 0, none⟩), kv k c] W (Done e b g N ⟨0, A, B⟩ A B W) := by
  have K0 := Lib.hid doings_run
  have HW := Lib.hid (And.intro hk ht)
  have H := Lib.hid h
  unfold kv
  clear h hk ht
  go_enter Tryd.func21, Tryd.ntmps21
  go_wp2_with fail
  have hA := heap_alloc_new W (.cells #[.int .i64 k, .int .i64 c] 47)
  have H0 : Aside (Stp [] W [] (W.alloc (.cells #[.int .i64 k, .int .i64 c] 47)) ∧ W.heap.size < (W.alloc (.cells #[.int .i64 k, .int .i64 c] 47)).heap.size) := ⟨Stp.alloc _ _ _, by simp⟩
  generalize W.alloc (.cells #[.int .i64 k, .int .i64 c] 47) = w0 at *
  generalize W.heap.size = gk at *
  have hk0 : Aside (∀ W', Stp [] w0 [] W' → W'.cell? ⟨gk, 0, none⟩ = some (.int .i64 k)) := fun W' hs => by
    have h1 := (hs.block gk H0.out.2 (by simp)).trans hA
    rw [cell_of_row W' gk 0 _ _ _ h1]; rfl
  have hcur : Stp [] w0 [] w0.drew := Stp.drew _ _
  clear hA
  go_region_held3 (fun W' => W'.cell? ⟨gk, 0, none⟩ = some (.int .i64 k))
    (first | exact hk0.out _ hcur | assumption)
    (first
      | (go_at_call 49; refine (K0.out _).mono ?_; rintro _ w1 ⟨t, rfl, ho, s1⟩; replace hcur := hcur.trans s1; obtain ⟨v, hlk⟩ := OM.lookNo ho k HW.out.1 HW.out.2; clear s1 ho))
  have H1 : Aside (Bu w1 e b g N A B ∧ Stp [] W [] w1) := ⟨H.out.stays (H0.out.1.trans hcur), H0.out.1.trans hcur⟩
  clear K0 hcur hlk
  go_wp2
  go_ret2
  exact ⟨by simp [chg], H1.out.1, H1.out.2.more (fun k hk => by cases hk)⟩
theorem do_run (h : Bu W e b g N A B) (k c : Int) (hk : (Lit.int .i64 k).wf = true) : Calls Tryd.prog 21 #[.pointer (some ⟨e, 0, none⟩), kv k c] W (Done e b g N (doS N k c A B) A B W) := by
  by_cases h0 : k = 0
  · subst h0
    exact do_0 h c _ rfl
  by_cases h2 : k = 2
  · subst h2
    exact do_2 h c _ rfl
  by_cases h3 : k = 3
  · subst h3
    exact do_3 h c _ rfl
  by_cases h4 : k = 4
  · subst h4
    exact do_4 h c _ rfl
  by_cases h5 : k = 5
  · subst h5
    exact do_5 h c _ rfl
  by_cases h6 : k = 6
  · subst h6
    exact do_6 h c _ rfl
  by_cases h7 : k = 7
  · subst h7
    exact do_7 h c _ rfl
  by_cases h8 : k = 8
  · subst h8
    exact do_8 h c _ rfl
  by_cases h9 : k = 9
  · subst h9
    exact do_9 h c _ rfl
  have ht : cat k tab = none := by
    unfold tab
    simp only [cat, h0, h2, h3, h4, h5, h6, h7, h8, h9, if_false]
  have e : doS N k c A B = ⟨0, A, B⟩ := by
    unfold doS
    simp only [h0, h2, h3, h4, h5, h6, h7, h8, h9, if_false]
  rw [e]
  exact do_none h k c hk ht
end
end Go.Proofs.YtombkdbojdhodaaDoor
