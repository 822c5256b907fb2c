/-
  A stage's End: what waits is laid into a buffer, whole, or not at all; and it is forgotten.
-/
import Derived.Test.YtombkdbojdhodaaDoorStg2
import Derived.Test.YtombkdbojdhodaaDoorBufI
namespace Go.Proofs.YtombkdbojdhodaaDoor
open Go.RowKit Go.Lib
set_option linter.unusedVariables false

/-- What End leaves of a buffer. -/
def enS (M : Nat) (t : Sv) (A B : List Nat) : Rs := if t.bg = true then (if t.ov = true then ⟨4, A, B⟩ else layS M t.X A B) else ⟨11, A, B⟩
/-- The stage's blocks are others than the buffer's. -/
def Apart (s b g e c q : Nat) : Prop := ∀ i ∈ [s, b, g], i ≠ e ∧ i ≠ c ∧ i ≠ q
theorem Apart.of {s b g e c q : Nat} (h : Apart s b g e c q) : (s ≠ e ∧ s ≠ c ∧ s ≠ q) ∧ (b ≠ e ∧ b ≠ c ∧ b ≠ q) ∧ (g ≠ e ∧ g ≠ c ∧ g ≠ q) := ⟨h s (by simp), h b (by simp), h g (by simp)⟩
section
variable {W : World} {s b g N e c q M : Nat} {t : Sv} {A B : List Nat}
theorem insS_fl {X : List Nat} (h : Pr X) (M : Nat) (A B : List Nat) : insS M (fl X) A B = layS M X A B := by
  rw [insS_yes ⟨X, h, rfl⟩, chs_fl h]
set_option maxHeartbeats 1000000 in
set_option maxRecDepth 100000 in
theorem slay_run (h : Sg W s b g N t) (k : Bu W e c q M A B) (hT : U.Tabs W) : Calls Tryd.prog 44 #[.pointer (some ⟨s, 0, none⟩), .pointer (some ⟨e, 0, none⟩)] W (Did e c q M (layS M t.X A B) W) := by
  have c0 := h.c0
  have KL := Lib.hid (len_cl h.ar)
  obtain ⟨l, hl⟩ : ∃ l, l = fl t.X := ⟨_, rfl⟩
  obtain ⟨n, hn⟩ : ∃ n, n = l.length := ⟨_, rfl⟩
  have hn2 : n ≤ 4096 := by have := h.lens; rw [hn, hl]; omega
  obtain ⟨o, ho, hmk⟩ := make_obj n (by omega)
  have KC : ∀ W', W' = W.alloc o → Calls Tryd.prog 59 #[.pointer (some ⟨b, 0, none⟩), .slice (some ⟨W.heap.size, 0, none⟩) n n] W'
      fun en w' => en = .returned (.int .i64 (n : Int)) ∧ Blk w' W.heap.size l ∧ Stp [] W [] w' := fun W' e => by
    subst e
    have kk := copy_run (h.ar.stays (Stp.alloc [] W o)) W.heap.size n n (List.replicate n 0) (new_blk W ho) (by simp) (by have := h.lt; omega)
    rw [← hl, ← hn, Nat.min_self] at kk
    refine kk.mono fun _ w' ⟨h1, h2, h3⟩ => ⟨h1, ?_, ?_⟩
    · have e : lay (List.replicate n 0) 0 (l.take n) = l := by
        rw [hn, List.take_length]
        unfold lay
        simp
      rwa [e] at h2
    · exact ((Stp.alloc [] W o).fresh h3 (fun i hi => by simp at hi; omega)).none
  have KC := Lib.hid KC
  have KI : ∀ W', Stp [] W [] W' → Blk W' W.heap.size l → Calls Tryd.prog 60 #[.pointer (some ⟨e, 0, none⟩), .slice (some ⟨W.heap.size, 0, none⟩) n n] W' (Did e c q M (layS M t.X A B) W') := fun W' hs hB => by
    have kk := ins_run (k.stays hs) (tabs_stays hT hs) (some ⟨W.heap.size, 0, none⟩) n n l hB.bts hn (Nat.le_refl _) (by unfold maxLen; omega) (fun _ ad e => by
      cases e
      have := k.lt
      show W.heap.size ≠ q
      omega)
    rwa [hl, insS_fl h.pr] at kk
  have KI := Lib.hid KI
  have H := Lib.hid (And.intro k hn)
  rw [← hl, ← hn] at KL
  have c0 := h.c0
  clear h k hl ho hT hn
  generalize layS M t.X A B = r at *
  go_enter Tryd.func44, Tryd.ntmps44
  go_wp2_with fail
  refine KL.out.mono ?_
  rintro _ W ⟨rfl, rfl⟩
  have c0' : (W.alloc o).cell? ⟨s, 0, none⟩ = some (.pointer (some ⟨b, 0, none⟩)) := ((Stp.alloc [] W o).cell (a := ⟨s, 0, none⟩) (block_lt_of_cell c0) (by simp)).trans c0
  go_wp2_with fail
  refine (KC.out _ rfl).mono ?_
  rintro _ w1 ⟨rfl, h1, s1⟩
  have KI := Lib.hid (KI.out _ s1 h1)
  have H1 := Lib.hid (And.intro h1 s1)
  clear KC h1 s1 c0 c0' hmk KL
  go_wp2_with fail
  refine KI.out.mono ?_
  rintro _ w2 ⟨rfl, h2, s2⟩
  have hlt := H.out.1.lt
  have hB2 := H1.out.1.other s2 (by simp; omega)
  obtain ⟨w3, hclr, hB3, s3⟩ := clear_any (off := 0) (n := n) (c := n) 0 hB2 (p := some ⟨W.heap.size, 0, none⟩) (fun _ => rfl) (by rw [← H.out.2]; omega)
  have H2 := Lib.hid (And.intro h2 (And.intro s2 s3))
  clear h2 s2 s3 hB2 hB3 hlt KI
  go_wp2
  go_ret
  obtain ⟨h2, s2, s3⟩ := H2.out
  have hlt := H.out.1.lt
  refine ⟨rfl, h2.other s3 (by simp; omega) (by simp; omega) (by simp; omega), ?_⟩
  have p := (H1.out.2.more (G := [e, c, q]) (fun k hk => by cases hk)).trans s2
  exact ⟨s3.os.trans p.os, s3.tape.trans p.tape, s3.output.trans p.output, Nat.le_trans p.size s3.size, fun k hk hG => (s3.block k (Nat.lt_of_lt_of_le hk p.size) (by simp; omega)).trans (p.block k hk hG), fun _ h => .inl h⟩
/-- What End leaves. -/
def EDid (s b g N e c q M : Nat) (r : Rs) (W : World) (en : Ending) (w' : World) : Prop := en = .returned (.int .i64 r.e) ∧ Sg w' s b g N sv0 ∧ Bu w' e c q M r.A r.B ∧ Stp [s, b, g, e, c, q] W [s, b, g, e, c, q] w'
set_option maxHeartbeats 1000000 in
set_option maxRecDepth 100000 in
theorem end_run (h : Sg W s b g N t) (k : Bu W e c q M A B) (ap : Apart s b g e c q) (hT : U.Tabs W) : Calls Tryd.prog 15 #[.pointer (some ⟨s, 0, none⟩), .pointer (some ⟨e, 0, none⟩)] W (EDid s b g N e c q M (enS M t A B) W) := by
  obtain ⟨X, bg, ov⟩ := t
  have c1 : W.cell? ⟨s, 1, none⟩ = some (.bool bg) := h.c1
  have c2 : W.cell? ⟨s, 2, none⟩ = some (.bool ov) := h.c2
  have KL := Lib.hid (slay_run h k hT)
  have H := Lib.hid (And.intro h (And.intro k ap))
  clear h k hT ap
  cases bg with
  | false =>
    have hi := H.out.1.inv rfl
    dsimp only at hi
    obtain ⟨rfl, rfl⟩ := hi
    have er : enS M ⟨[], false, false⟩ A B = ⟨11, A, B⟩ := rfl
    rw [er]
    clear er
    go_enter_defers Tryd.func15, Tryd.ntmps15
    go_wp2
    exact ⟨_, results_tmp rfl _ _ _, rfl, H.out.1, H.out.2.1, Stp.refl _ _⟩
  | true =>
    cases ov with
    | true =>
      have er : enS M ⟨X, true, true⟩ A B = ⟨4, A, B⟩ := rfl
      rw [er]
      clear er
      go_enter_defers Tryd.func15, Tryd.ntmps15
      go_wp2
      refine leaves_cons (f := 17) (args := #[.pointer (some ⟨s, 0, none⟩)]) (by simp) (by simp [go_sem]) ?_
      refine (drop_d H.out.1 .returning).mono ?_
      rintro e u' w'' ⟨rfl, rfl, h1, s1⟩
      have hap := H.out.2.2.of
      exact ⟨_, results_tmp rfl _ _ _, rfl, h1, H.out.2.1.other s1 (by simp; omega) (by simp; omega) (by simp; omega), s1.more (fun k hk => by simp at hk; simp; omega)⟩
    | false =>
      have er : enS M ⟨X, true, false⟩ A B = layS M X A B := rfl
      rw [er]
      clear er
      dsimp only at KL
      generalize layS M X A B = r at *
      go_enter_defers Tryd.func15, Tryd.ntmps15
      go_wp2_with fail
      refine KL.out.mono ?_
      rintro _ w1 ⟨rfl, h1, s1⟩
      have H1 := Lib.hid (And.intro h1 s1)
      clear h1 s1 KL
      go_wp2
      have hap := H.out.2.2.of
      refine leaves_cons (f := 17) (args := #[.pointer (some ⟨s, 0, none⟩)]) (by simp) (by simp [go_sem]) ?_
      refine (drop_d (H.out.1.other H1.out.2 (by simp; omega) (by simp; omega) (by simp; omega)) .returning).mono ?_
      rintro e u' w'' ⟨rfl, rfl, h2, s2⟩
      exact ⟨_, results_tmp rfl _ _ _, rfl, h2, H1.out.1.other s2 (by simp; omega) (by simp; omega) (by simp; omega), (H1.out.2.more (fun k hk => by simp at hk; simp; omega)).trans (s2.more (fun k hk => by simp at hk; simp; omega))⟩
/-- End without a buffer. -/
theorem end_none (h : Sg W s b g N t) : Calls Tryd.prog 15 #[.pointer (some ⟨s, 0, none⟩), .pointer none] W fun en w' => en = .returned (.int .i64 (if t.bg = true then 1 else 11)) ∧ Sg w' s b g N sv0 ∧ Stp [s, b, g] W [s, b, g] w' := by
  obtain ⟨X, bg, ov⟩ := t
  have c1 : W.cell? ⟨s, 1, none⟩ = some (.bool bg) := h.c1
  have H := Lib.hid h
  clear h
  cases bg with
  | false =>
    have hi := H.out.inv rfl
    dsimp only at hi
    obtain ⟨rfl, rfl⟩ := hi
    go_enter_defers Tryd.func15, Tryd.ntmps15
    go_wp2
    exact ⟨_, results_tmp rfl _ _ _, rfl, H.out, Stp.refl _ _⟩
  | true =>
    go_enter_defers Tryd.func15, Tryd.ntmps15
    go_wp2
    refine leaves_cons (f := 17) (args := #[.pointer (some ⟨s, 0, none⟩)]) (by simp) (by simp [go_sem]) ?_
    refine (drop_d H.out .returning).mono ?_
    rintro e u' w'' ⟨rfl, rfl, h1, s1⟩
    exact ⟨_, results_tmp rfl _ _ _, rfl, h1, s1⟩
end
end Go.Proofs.YtombkdbojdhodaaDoor
