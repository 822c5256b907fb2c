/-
  The registry's calls Clean; and Wipe, Zero, Clean of no registry.
-/
import Derived.Test.YtmhecgidhdbcgaaWipe
namespace Go.Proofs.Ytmhecgidhdbcgaa
open Go.RowKit Go.Shelf Go.Lib Go.Maps
attribute [local go_sem] Oper.semAt_some
set_option linter.unusedVariables false
section
variable {W W' : World} {F G G' : List Nat} {r m B : Nat} {v : Value} {D : DataW Unit} {L : List Ent}
set_option maxRecDepth 100000 in
set_option maxHeartbeats 2000000 in
theorem cleanr_in (h : Rx W F r m v D L) : CallsIn Fence.wide 4 Try.prog 20 #[.pointer (some ⟨r, 0, none⟩)] W fun e w' => e = .returned (.bool true) ∧ Stp [] W [] w' := by
  refine callsIn_of_wp_marks Try.func20 rfl trivial ?_ rfl
  simp only [Try.ntmps20, List.size_toArray, List.length_cons, List.length_nil, Nat.reduceAdd, Nat.reduceSub, Array.replicate_succ, Array.replicate_zero, List.push_toArray, List.append_toArray, List.nil_append, List.cons_append]
  have K1 := Lib.hid (all_fn (some ⟨r, 0, none⟩))
  have H := Lib.hid h
  clear h
  gi_wp2_with (refine ⟨trivial, ?_⟩; gi_at_call 29; refine (callsIn_wide.2 (K1.out _)).mono ?_; rintro e w' ⟨rfl, rfl⟩)
  have bO := Boxed.new W 4 (.bool false)
  have bN := Boxed.new (W.alloc (.cells #[.bool false] 4)) 23 (.pointer (some ⟨r, 0, none⟩))
  rw [World.size_alloc] at bN
  have hlow := H.out.low
  have st0 : Stp [] W [] ((W.alloc (.cells #[.bool false] 4)).alloc (.cells #[.pointer (some ⟨r, 0, none⟩)] 23)) := (Stp.alloc [] W _).trans (Stp.alloc [] _ _)
  have hX0 := H.out.stays st0
  refine wpIn_rangeFunc_ownG rfl (by omega) (gf := 34) (lb := #[.pointer (some ⟨W.heap.size + 1, 0, none⟩)]) rfl trivial (enters_of Try.func34 (by kernel_rfl) rfl)
    (iter_stops 3 (by omega) (W.heap.size + 1) r m v F D L _ bN hX0) KpR.t (KpR.b (by rw [World.size_alloc, World.size_alloc]; exact (hlow.mono (by omega)).seen (by omega))) (Below.refl _ _) (fun _ => rfl)
    (fun pre W1 => Rx W1 F r m v D L ∧ Stp [] W [] W1 ∧ W.heap.size + 1 < W1.heap.size ∧ Boxed W1 W.heap.size 4 (.bool false))
    (fun _ _ _ => False)
    (fun pre W1 W2 row hI hg hr => ⟨hI.1.keep (hlow.mono (by simp; omega)) (grown_stp hg) (row_ge hr), stp_grown hI.2.1 hg (fun k e => by have := (hr k e).1; rw [World.size_alloc, World.size_alloc] at this; omega), Nat.lt_of_lt_of_le hI.2.2.1 hg.size,
      hI.2.2.2.kept hg (fun e => by have := (hr _ e.symm).1; rw [World.size_alloc, World.size_alloc] at this; omega)⟩)
    (fun _ _ _ _ _ hs _ _ => hs)
    ⟨hX0, st0, by simp, bO.alloc _⟩
    (fun x => { tmps := #[.pointer (some ⟨r, 0, none⟩), undef, .pointer (some ⟨W.heap.size, 0, none⟩), .pointer (some ⟨x.1.b, 0, none⟩), .pointer (some ⟨r, 0, none⟩), .func (.func 34) #[] #[.pointer (some ⟨W.heap.size + 1, 0, none⟩)], .pointer (some ⟨x.1.b, 0, none⟩), undef, undef, undef], defers := [] }) ?assign ?body ?done ?stop
  case assign =>
    intro lp x W1 K hK
    simp only [emVals]
    gi_wp2
    simpa using hK
  case body =>
    rintro lp pre x W1 ⟨hR, hs, hsz, hbo⟩ hlt
    have K2 := Lib.hid (clean_run (hR.ars _ x.2))
    have HI := Lib.hid (And.intro hR (And.intro hs hbo))
    have cb : ∀ q, (W1.drewN q).cell? ⟨W.heap.size, 0, none⟩ = some (.bool false) := fun q => hbo.cell
    have fb : ∀ q, (W1.drewN q).frozen? ⟨W.heap.size, 0, none⟩ = false := fun q => hbo.frozen
    clear hR hs hbo
    gi_wp2_with (refine ⟨trivial, ?_⟩; gi_at_call 31; refine (CallsIn.inRound lp (callsIn_wide.2 K2.out)).mono ?_; rintro e w1 ⟨rfl, q, rfl⟩)
    obtain ⟨hR, hs, hbo⟩ := HI.out
    exact ⟨keepsFrom_stp (Stp.drewN [] W1 q) (fun k hk => by cases hk), KpR.stp (Stp.drewN [] W1 q) (fun k hk => ⟨Nat.lt_of_lt_of_le ((hlow.mono (by omega)).seen (by omega) k hk) (Nat.succ_le_of_lt hsz), fun h => by cases h⟩), hR.stays (Stp.drewN [] W1 q), hs.trans (Stp.drewN [] W1 q), hsz, hbo⟩
  case done =>
    rintro Dk ys W1 hD hys ⟨hR, hs, hsz, hbo⟩ hK
    have cb := hbo.cell
    have fb := hbo.frozen
    gi_wp2
    rw [World.size_alloc, World.size_alloc] at hD
    have s1 : Stp [W.heap.size] W1 [W.heap.size] (W1.setCell ⟨W.heap.size, 0, none⟩ (.bool true)) := Stp.setCell _ _ (by simp)
    have hK1 : (W1.setCell ⟨W.heap.size, 0, none⟩ (.bool true)).heap[Dk]? = some (.deferred (some [])) := (s1.block Dk (Array.getElem?_eq_some_iff.1 hK).1 (by simp; omega)).trans hK
    refine ⟨by simp, .inl ⟨_, _, rfl, run_takeDeferred hK1, ?_⟩⟩
    have hb1 : Boxed (W1.setCell ⟨W.heap.size, 0, none⟩ (.bool true)) W.heap.size 4 (.bool true) := hbo.set _
    refine ⟨_, results_bool rfl _ _ W.heap.size true rfl (hb1.kept (grownBy_putObj' _ Dk _) (by simp; omega)), rfl, stp_grown ((hs.fresh s1 (fun k hk => by simp at hk; omega)).none) (grownBy_putObj' _ Dk _) (fun k e => by cases e; omega)⟩
  case stop =>
    rintro Dk c pre W1 _ _ h _
    exact h.elim
theorem cleanr_run (h : Rx W F r m v D L) : Calls Try.prog 20 #[.pointer (some ⟨r, 0, none⟩)] W (Tells (.bool true) W) := (callsIn_wide (n := 4)).1 (cleanr_in h)
set_option maxRecDepth 100000 in
set_option maxHeartbeats 2000000 in
theorem cleanr_nil_in (W : World) : CallsIn Fence.wide 4 Try.prog 20 #[.pointer none] W fun e w' => e = .returned (.bool true) ∧ Stp [] W [] w' := by
  refine callsIn_of_wp_marks Try.func20 rfl trivial ?_ rfl
  simp only [Try.ntmps20, List.size_toArray, List.length_cons, List.length_nil, Nat.reduceAdd, Nat.reduceSub, Array.replicate_succ, Array.replicate_zero, List.push_toArray, List.append_toArray, List.nil_append, List.cons_append]
  have K1 := Lib.hid (all_fn none)
  gi_wp2_with (refine ⟨trivial, ?_⟩; gi_at_call 29; refine (callsIn_wide.2 (K1.out _)).mono ?_; rintro e w' ⟨rfl, rfl⟩)
  have bO := Boxed.new W 4 (.bool false)
  have bN := Boxed.new (W.alloc (.cells #[.bool false] 4)) 23 (.pointer none)
  rw [World.size_alloc] at bN
  have st0 : Stp [] W [] ((W.alloc (.cells #[.bool false] 4)).alloc (.cells #[.pointer none] 23)) := (Stp.alloc [] W _).trans (Stp.alloc [] _ _)
  refine wpIn_rangeFunc_ownG rfl (by omega) (gf := 34) (lb := #[.pointer (some ⟨W.heap.size + 1, 0, none⟩)]) rfl trivial (enters_of Try.func34 (by kernel_rfl) rfl)
    (iter_stops0 3 (W.heap.size + 1) _ bN) KpR.t (KpR.b (fun k h => by cases h)) (Below.refl _ _) (fun _ => rfl)
    (fun pre W1 => Stp [] W [] W1 ∧ W.heap.size + 1 < W1.heap.size ∧ Boxed W1 W.heap.size 4 (.bool false))
    (fun _ _ _ => False)
    (fun pre W1 W2 row hI hg hr => ⟨stp_grown hI.1 hg (fun k e => by have := (hr k e).1; rw [World.size_alloc, World.size_alloc] at this; omega), Nat.lt_of_lt_of_le hI.2.1 hg.size,
      hI.2.2.kept hg (fun e => by have := (hr _ e.symm).1; rw [World.size_alloc, World.size_alloc] at this; omega)⟩)
    (fun _ _ _ _ _ hs _ _ => hs)
    ⟨st0, by simp, bO.alloc _⟩
    (fun x => { tmps := #[.pointer none, undef, .pointer (some ⟨W.heap.size, 0, none⟩), .pointer (some ⟨x.1.b, 0, none⟩), .pointer none, .func (.func 34) #[] #[.pointer (some ⟨W.heap.size + 1, 0, none⟩)], .pointer (some ⟨x.1.b, 0, none⟩), undef, undef, undef], defers := [] }) ?assign ?body ?done ?stop
  case assign =>
    intro lp x W1 K hK
    simp only [emVals]
    gi_wp2
    simpa using hK
  case body =>
    rintro lp pre x
    exact absurd x.2 (by simp)
  case done =>
    rintro Dk ys W1 hD hys ⟨hs, hsz, hbo⟩ hK
    have cb := hbo.cell
    have fb := hbo.frozen
    gi_wp2
    rw [World.size_alloc, World.size_alloc] at hD
    have s1 : Stp [W.heap.size] W1 [W.heap.size] (W1.setCell ⟨W.heap.size, 0, none⟩ (.bool true)) := Stp.setCell _ _ (by simp)
    have hK1 : (W1.setCell ⟨W.heap.size, 0, none⟩ (.bool true)).heap[Dk]? = some (.deferred (some [])) := (s1.block Dk (Array.getElem?_eq_some_iff.1 hK).1 (by simp; omega)).trans hK
    refine ⟨by simp, .inl ⟨_, _, rfl, run_takeDeferred hK1, ?_⟩⟩
    have hb1 : Boxed (W1.setCell ⟨W.heap.size, 0, none⟩ (.bool true)) W.heap.size 4 (.bool true) := hbo.set _
    refine ⟨_, results_bool rfl _ _ W.heap.size true rfl (hb1.kept (grownBy_putObj' _ Dk _) (by simp; omega)), rfl, stp_grown ((hs.fresh s1 (fun k hk => by simp at hk; omega)).none) (grownBy_putObj' _ Dk _) (fun k e => by cases e; omega)⟩
  case stop =>
    rintro Dk c pre W1 _ _ h _
    exact h.elim
theorem cleanr_nil (W : World) : Calls Try.prog 20 #[.pointer none] W (Tells (.bool true) W) := (callsIn_wide (n := 4)).1 (cleanr_nil_in W)
set_option maxRecDepth 100000 in
set_option maxHeartbeats 2000000 in
theorem zeror_nil_in (W : World) : CallsIn Fence.wide 4 Try.prog 19 #[.pointer none] W fun e w' => e = .returned (.bool true) ∧ Stp [] W [] w' := by
  refine callsIn_of_wp_marks Try.func19 rfl trivial ?_ rfl
  simp only [Try.ntmps19, List.size_toArray, List.length_cons, List.length_nil, Nat.reduceAdd, Nat.reduceSub, Array.replicate_succ, Array.replicate_zero, List.push_toArray, List.append_toArray, List.nil_append, List.cons_append]
  have K1 := Lib.hid (all_fn none)
  gi_wp2_with (refine ⟨trivial, ?_⟩; gi_at_call 29; refine (callsIn_wide.2 (K1.out _)).mono ?_; rintro e w' ⟨rfl, rfl⟩)
  have bO := Boxed.new W 4 (.bool false)
  have bN := Boxed.new (W.alloc (.cells #[.bool false] 4)) 23 (.pointer none)
  rw [World.size_alloc] at bN
  have st0 : Stp [] W [] ((W.alloc (.cells #[.bool false] 4)).alloc (.cells #[.pointer none] 23)) := (Stp.alloc [] W _).trans (Stp.alloc [] _ _)
  refine wpIn_rangeFunc_ownG rfl (by omega) (gf := 34) (lb := #[.pointer (some ⟨W.heap.size + 1, 0, none⟩)]) rfl trivial (enters_of Try.func34 (by kernel_rfl) rfl)
    (iter_stops0 3 (W.heap.size + 1) _ bN) KpR.t (KpR.b (fun k h => by cases h)) (Below.refl _ _) (fun _ => rfl)
    (fun pre W1 => Stp [] W [] W1 ∧ W.heap.size + 1 < W1.heap.size ∧ Boxed W1 W.heap.size 4 (.bool false))
    (fun _ _ _ => False)
    (fun pre W1 W2 row hI hg hr => ⟨stp_grown hI.1 hg (fun k e => by have := (hr k e).1; rw [World.size_alloc, World.size_alloc] at this; omega), Nat.lt_of_lt_of_le hI.2.1 hg.size,
      hI.2.2.kept hg (fun e => by have := (hr _ e.symm).1; rw [World.size_alloc, World.size_alloc] at this; omega)⟩)
    (fun _ _ _ _ _ hs _ _ => hs)
    ⟨st0, by simp, bO.alloc _⟩
    (fun x => { tmps := #[.pointer none, undef, .pointer (some ⟨W.heap.size, 0, none⟩), .pointer (some ⟨x.1.b, 0, none⟩), .pointer none, .func (.func 34) #[] #[.pointer (some ⟨W.heap.size + 1, 0, none⟩)], .pointer (some ⟨x.1.b, 0, none⟩), undef, undef, undef], defers := [] }) ?assign ?body ?done ?stop
  case assign =>
    intro lp x W1 K hK
    simp only [emVals]
    gi_wp2
    simpa using hK
  case body =>
    rintro lp pre x
    exact absurd x.2 (by simp)
  case done =>
    rintro Dk ys W1 hD hys ⟨hs, hsz, hbo⟩ hK
    have cb := hbo.cell
    have fb := hbo.frozen
    gi_wp2
    rw [World.size_alloc, World.size_alloc] at hD
    have s1 : Stp [W.heap.size] W1 [W.heap.size] (W1.setCell ⟨W.heap.size, 0, none⟩ (.bool true)) := Stp.setCell _ _ (by simp)
    have hK1 : (W1.setCell ⟨W.heap.size, 0, none⟩ (.bool true)).heap[Dk]? = some (.deferred (some [])) := (s1.block Dk (Array.getElem?_eq_some_iff.1 hK).1 (by simp; omega)).trans hK
    refine ⟨by simp, .inl ⟨_, _, rfl, run_takeDeferred hK1, ?_⟩⟩
    have hb1 : Boxed (W1.setCell ⟨W.heap.size, 0, none⟩ (.bool true)) W.heap.size 4 (.bool true) := hbo.set _
    refine ⟨_, results_bool rfl _ _ W.heap.size true rfl (hb1.kept (grownBy_putObj' _ Dk _) (by simp; omega)), rfl, stp_grown ((hs.fresh s1 (fun k hk => by simp at hk; omega)).none) (grownBy_putObj' _ Dk _) (fun k e => by cases e; omega)⟩
  case stop =>
    rintro Dk c pre W1 _ _ h _
    exact h.elim
theorem zeror_nil (W : World) : Calls Try.prog 19 #[.pointer none] W (Tells (.bool true) W) := (callsIn_wide (n := 4)).1 (zeror_nil_in W)
set_option maxRecDepth 100000 in
set_option maxHeartbeats 2000000 in
theorem wiper_nil_in (W : World) : CallsIn Fence.wide 4 Try.prog 18 #[.pointer none] W (Tells (.tuple #[]) W) := by
  refine callsIn_of_wp_marks Try.func18 rfl trivial ?_ rfl
  simp only [Try.ntmps18, List.size_toArray, List.length_cons, List.length_nil, Nat.reduceAdd, Nat.reduceSub, Array.replicate_succ, Array.replicate_zero, List.push_toArray, List.append_toArray, List.nil_append, List.cons_append]
  have K1 := Lib.hid (all_fn none W)
  gi_wp2_with (refine ⟨trivial, ?_⟩; gi_at_call 29; refine (callsIn_wide.2 K1.out).mono ?_; rintro e w' ⟨rfl, rfl⟩)
  have bN := Boxed.new W 23 (.pointer none)
  refine wpIn_rangeFunc_ownG rfl (by omega) (gf := 34) (lb := #[.pointer (some ⟨W.heap.size, 0, none⟩)]) rfl trivial (enters_of Try.func34 (by kernel_rfl) rfl)
    (iter_stops0 3 W.heap.size _ bN) KpR.t (KpR.b (fun k h => by cases h)) (Below.refl _ _) (fun _ => rfl)
    (fun pre W1 => Stp [] W [] W1)
    (fun _ _ _ => False)
    (fun pre W1 W2 row hI hg hr => stp_grown hI hg (fun k e => by have := (hr k e).1; rw [World.size_alloc] at this; omega))
    (fun _ _ _ _ _ hs _ _ => hs)
    (Stp.alloc _ _ _)
    (fun x => { tmps := #[.pointer none, undef, .pointer (some ⟨x.1.b, 0, none⟩), .pointer none, .func (.func 34) #[] #[.pointer (some ⟨W.heap.size, 0, none⟩)], .pointer (some ⟨x.1.b, 0, none⟩), undef, undef], defers := [] }) ?assign ?body ?done ?stop
  case assign =>
    intro lp x W1 K hK
    simp only [emVals]
    gi_wp2
    simpa using hK
  case body =>
    rintro lp pre x
    exact absurd x.2 (by simp)
  case done =>
    rintro Dk ys W1 hD hys hs hK
    rw [World.size_alloc] at hD
    gi_wp2
    refine ⟨by simp, .inl ⟨_, _, rfl, run_takeDeferred hK, ?_⟩⟩
    exact ⟨_, results_none rfl _ _ _, rfl, stp_grown hs (grownBy_putObj' W1 Dk _) (fun k e => by cases e; omega)⟩
  case stop =>
    rintro Dk c pre W1 _ _ h _
    exact h.elim
theorem wiper_nil (W : World) : Calls Try.prog 18 #[.pointer none] W (Tells (.tuple #[]) W) := (callsIn_wide (n := 4)).1 (wiper_nil_in W)
end
end Go.Proofs.Ytmhecgidhdbcgaa
