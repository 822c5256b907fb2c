/-
  The registry's call Cells.
-/
import Derived.Test.YtmhecgidhdbcgaaClean
namespace Go.Proofs.Ytmhecgidhdbcgaa
open Go.RowKit Go.Shelf Go.Lib Go.Maps
attribute [local go_sem] Oper.semAt_some
set_option linter.unusedVariables false
theorem sum_le {α : Type} (f : α → Nat) (l : List α) (h : ∀ x ∈ l, f x ≤ 4096) : (l.map f).sum ≤ l.length * 4096 := by
  induction l with
  | nil => simp
  | cons a l ih =>
    have h1 := h a (by simp)
    have h2 := ih (fun x hx => h x (by simp [hx]))
    simp only [List.map_cons, List.sum_cons, List.length_cons]
    omega
/-- How many cells some arenas have. -/
def sumE {L : List Ent} (pre : List (Em L)) : Nat := (pre.map (fun x => x.1.N)).sum
theorem sumE_snoc {L : List Ent} (pre : List (Em L)) (x : Em L) : sumE (pre ++ [x]) = sumE pre + x.1.N := by simp [sumE]
theorem sumE_all {L : List Ent} {ys : List (Em L)} (h : ys.map (·.1) = L) : (L.map Ent.N).sum = sumE ys := by
  unfold sumE
  conv => lhs; rw [← h]
  rw [List.map_map]
  rfl
theorem seen_lt {B bx r m : Nat} {v : Value} {L : List Ent} (h : Low B r m v L) {k : Nat} (hk : k ∈ seen bx r m v) : k < B ∨ k = bx := by
  by_cases e : k = bx
  · exact .inr e
  · refine .inl (h.seen (bx := r) h.r k ?_)
    unfold seen at hk ⊢
    simp only [List.mem_cons] at hk ⊢
    rcases hk with q | q | q | q
    · exact absurd q e
    · exact .inl q
    · exact .inr (.inr (.inl q))
    · exact .inr (.inr (.inr q))
section
variable {W W' : World} {F G G' : List Nat} {r m B : Nat} {v : Value} {D : DataW Unit} {L : List Ent}
set_option maxRecDepth 100000 in
set_option maxHeartbeats 2000000 in
theorem cellsr_in (h : Rx W F r m v D L) : CallsIn Fence.wide 4 Try.prog 16 #[.pointer (some ⟨r, 0, none⟩)] W fun e w' => e = .returned (.int .i64 ((L.map Ent.N).sum : Nat)) ∧ Stp [] W [] w' := by
  refine callsIn_of_wp_marks Try.func16 rfl trivial ?_ rfl
  simp only [Try.ntmps16, List.size_toArray, List.length_cons, List.length_nil, Nat.reduceAdd, Nat.reduceSub, Array.replicate_succ, Array.replicate_zero, List.push_toArray, List.append_toArray, List.nil_append, List.cons_append]
  have K1 := Lib.hid (all_fn (some ⟨r, 0, none⟩))
  have H := Lib.hid h
  clear h
  gi_wp2_with (refine ⟨trivial, ?_⟩; gi_at_call 29; refine (callsIn_wide.2 (K1.out _)).mono ?_; rintro e w' ⟨rfl, rfl⟩)
  have bO := Boxed.new W 3 (.int .i64 0)
  have bN := Boxed.new (W.alloc (.cells #[.int .i64 0] 3)) 23 (.pointer (some ⟨r, 0, none⟩))
  rw [World.size_alloc] at bN
  have hlow := H.out.low
  have st0 : Stp [] W [] ((W.alloc (.cells #[.int .i64 0] 3)).alloc (.cells #[.pointer (some ⟨r, 0, none⟩)] 23)) := (Stp.alloc [] W _).trans (Stp.alloc [] _ _)
  have hX0 := H.out.stays st0
  refine wpIn_rangeFunc_ownG rfl (by omega) (gf := 34) (lb := #[.pointer (some ⟨W.heap.size + 1, 0, none⟩)]) rfl trivial (enters_of Try.func34 (by kernel_rfl) rfl)
    (iter_stops 3 (by omega) (W.heap.size + 1) r m v F D L _ bN hX0) KpR.t (KpR.b (by rw [World.size_alloc, World.size_alloc]; exact (hlow.mono (by omega)).seen (by omega))) (Below.refl _ _) (fun _ => rfl)
    (fun pre W1 => Rx W1 F r m v D L ∧ Stp [] W [] W1 ∧ W.heap.size + 1 < W1.heap.size ∧ Boxed W1 W.heap.size 3 (.int .i64 (sumE pre : Nat)))
    (fun _ _ _ => False)
    (fun pre W1 W2 row hI hg hr => ⟨hI.1.keep (hlow.mono (by simp; omega)) (grown_stp hg) (row_ge hr), stp_grown hI.2.1 hg (fun k e => by have := (hr k e).1; rw [World.size_alloc, World.size_alloc] at this; omega), Nat.lt_of_lt_of_le hI.2.2.1 hg.size,
      hI.2.2.2.kept hg (fun e => by have := (hr _ e.symm).1; rw [World.size_alloc, World.size_alloc] at this; omega)⟩)
    (fun _ _ _ _ _ hs _ _ => hs)
    ⟨hX0, st0, by simp, bO.alloc _⟩
    (fun x => { tmps := #[.pointer (some ⟨r, 0, none⟩), undef, .int .i64 0, .pointer (some ⟨W.heap.size, 0, none⟩), .pointer (some ⟨x.1.b, 0, none⟩), .pointer (some ⟨r, 0, none⟩), .func (.func 34) #[] #[.pointer (some ⟨W.heap.size + 1, 0, none⟩)], .pointer (some ⟨x.1.b, 0, none⟩), undef, undef, undef, undef, undef], defers := [] }) ?assign ?body ?done ?stop
  case assign =>
    intro lp x W1 K hK
    simp only [emVals]
    gi_wp2
    simpa using hK
  case body =>
    rintro lp pre x W1 ⟨hR, hs, hsz, hbo⟩ hlt
    have har : Ar W1.drew x.1.b x.1.g x.1.N x.1.l := (hR.ars _ x.2).stays (Stp.drew [] W1)
    have K2 := Lib.hid (cap_cl har)
    have htop := har.top
    have hsum := Lib.hid (sumE_snoc pre x)
    have hle : sumE pre ≤ pre.length * 4096 := sum_le _ pre (fun y _ => (hR.ars _ y.2).top)
    have hl16 := hR.top
    have HI := Lib.hid (And.intro hR (And.intro hs hbo))
    obtain ⟨T, hT⟩ : ∃ T, sumE pre = T := ⟨_, rfl⟩
    rw [hT] at hle hbo hsum
    have HT := Lib.hid hT
    have cb : W1.drew.cell? ⟨W.heap.size, 0, none⟩ = some (.int .i64 (T : Int)) := hbo.cell
    have fb : W1.drew.frozen? ⟨W.heap.size, 0, none⟩ = false := hbo.frozen
    have hb1 : (T : Int) ≤ 1000000 := by omega
    have hb2 : (x.1.N : Int) ≤ 1000000 := by omega
    generalize x.1.N = nn at *
    clear hR hs hbo har hT
    gi_wp2
    gi_region_with (refine ⟨trivial, ?_⟩; gi_at_call 12; refine (CallsIn.inRound lp (callsIn_wide.2 K2.out)).mono ?_; rintro e w1 ⟨rfl, rfl⟩)
    all_goals gi_wp2
    all_goals
      have hw : IntKind.i64.wrap ((T : Int) + (nn : Int)) = ((T + nn : Nat) : Int) := by rw [IntKind.wrap_i64]; omega
      obtain ⟨hR, hs, hbo⟩ := HI.out
      rw [hw]
      have s1 : Stp [W.heap.size] W1 [W.heap.size] (W1.setCell ⟨W.heap.size, 0, none⟩ (.int .i64 ((T + nn : Nat) : Int))).drew := (Stp.setCell _ _ (by simp)).trans (Stp.drew _ _)
      refine ⟨keepsFrom_stp s1 (fun k hk => by rw [World.size_alloc, World.size_alloc]; simp at hk; omega), KpR.stp s1 (fun k hk => ⟨Nat.lt_of_lt_of_le ((hlow.mono (by omega)).seen (by omega) k hk) (Nat.succ_le_of_lt hsz), fun e => ?_⟩), hR.keep hlow s1 (fun k hk => by simp at hk; omega), (hs.fresh s1 (fun k hk => by simp at hk; omega)).none, Nat.lt_of_lt_of_le hsz s1.size, ?_⟩
      · simp only [List.mem_singleton] at e
        rw [e] at hk
        have := seen_lt hlow hk
        omega
      · rw [hsum.out]
        exact hbo.set _
  case done =>
    rintro Dk ys W1 hD hys ⟨hR, hs, hsz, hbo⟩ hK
    have cb := hbo.cell
    rw [World.size_alloc, World.size_alloc] at hD
    have e := sumE_all hys
    gi_wp2
    refine ⟨by simp, .inl ⟨_, _, rfl, run_takeDeferred hK, ?_⟩⟩
    rw [e]
    exact ⟨_, results_tmp rfl _ _ _, rfl, stp_grown hs (grownBy_putObj' _ Dk _) (fun k e => by cases e; omega)⟩
  case stop =>
    rintro Dk c pre W1 _ _ h _
    exact h.elim
theorem cellsr_run (h : Rx W F r m v D L) : Calls Try.prog 16 #[.pointer (some ⟨r, 0, none⟩)] W (Tells (.int .i64 ((L.map Ent.N).sum : Nat)) W) := (callsIn_wide (n := 4)).1 (cellsr_in h)
set_option maxRecDepth 100000 in
set_option maxHeartbeats 2000000 in
theorem cellsr_nil_in (W : World) : CallsIn Fence.wide 4 Try.prog 16 #[.pointer none] W fun e w' => e = .returned (.int .i64 0) ∧ Stp [] W [] w' := by
  refine callsIn_of_wp_marks Try.func16 rfl trivial ?_ rfl
  simp only [Try.ntmps16, List.size_toArray, List.length_cons, List.length_nil, Nat.reduceAdd, Nat.reduceSub, Array.replicate_succ, Array.replicate_zero, List.push_toArray, List.append_toArray, List.nil_append, List.cons_append]
  have K1 := Lib.hid (all_fn none)
  gi_wp2_with (refine ⟨trivial, ?_⟩; gi_at_call 29; refine (callsIn_wide.2 (K1.out _)).mono ?_; rintro e w' ⟨rfl, rfl⟩)
  have bO := Boxed.new W 3 (.int .i64 0)
  have bN := Boxed.new (W.alloc (.cells #[.int .i64 0] 3)) 23 (.pointer none)
  rw [World.size_alloc] at bN
  have st0 : Stp [] W [] ((W.alloc (.cells #[.int .i64 0] 3)).alloc (.cells #[.pointer none] 23)) := (Stp.alloc [] W _).trans (Stp.alloc [] _ _)
  refine wpIn_rangeFunc_ownG rfl (by omega) (gf := 34) (lb := #[.pointer (some ⟨W.heap.size + 1, 0, none⟩)]) rfl trivial (enters_of Try.func34 (by kernel_rfl) rfl)
    (iter_stops0 3 (W.heap.size + 1) _ bN) KpR.t (KpR.b (fun k h => by cases h)) (Below.refl _ _) (fun _ => rfl)
    (fun pre W1 => Stp [] W [] W1 ∧ W.heap.size + 1 < W1.heap.size ∧ Boxed W1 W.heap.size 3 (.int .i64 (sumE pre : Nat)))
    (fun _ _ _ => False)
    (fun pre W1 W2 row hI hg hr => ⟨stp_grown hI.1 hg (fun k e => by have := (hr k e).1; rw [World.size_alloc, World.size_alloc] at this; omega), Nat.lt_of_lt_of_le hI.2.1 hg.size,
      hI.2.2.kept hg (fun e => by have := (hr _ e.symm).1; rw [World.size_alloc, World.size_alloc] at this; omega)⟩)
    (fun _ _ _ _ _ hs _ _ => hs)
    ⟨st0, by simp, bO.alloc _⟩
    (fun x => { tmps := #[.pointer none, undef, .int .i64 0, .pointer (some ⟨W.heap.size, 0, none⟩), .pointer (some ⟨x.1.b, 0, none⟩), .pointer none, .func (.func 34) #[] #[.pointer (some ⟨W.heap.size + 1, 0, none⟩)], .pointer (some ⟨x.1.b, 0, none⟩), undef, undef, undef, undef, undef], defers := [] }) ?assign ?body ?done ?stop
  case assign =>
    intro lp x W1 K hK
    simp only [emVals]
    gi_wp2
    simpa using hK
  case body =>
    rintro lp pre x
    exact absurd x.2 (by simp)
  case done =>
    rintro Dk ys W1 hD hys ⟨hs, hsz, hbo⟩ hK
    have cb := hbo.cell
    rw [World.size_alloc, World.size_alloc] at hD
    obtain rfl : ys = [] := by simpa using hys
    gi_wp2
    refine ⟨by simp, .inl ⟨_, _, rfl, run_takeDeferred hK, ?_⟩⟩
    exact ⟨_, results_tmp rfl _ _ _, rfl, stp_grown hs (grownBy_putObj' _ Dk _) (fun k e => by cases e; omega)⟩
  case stop =>
    rintro Dk c pre W1 _ _ h _
    exact h.elim
theorem cellsr_nil (W : World) : Calls Try.prog 16 #[.pointer none] W (Tells (.int .i64 0) W) := (callsIn_wide (n := 4)).1 (cellsr_nil_in W)
end
end Go.Proofs.Ytmhecgidhdbcgaa
