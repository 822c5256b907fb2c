/-
  The registry's calls Wipe, Zero, Clean and Cells.
-/
import Derived.Test.YtmhecgidhdbcgaaIter
namespace Go.Proofs.Ytmhecgidhdbcgaa
open Go.RowKit Go.Shelf Go.Lib Go.Maps
attribute [local go_sem] Oper.semAt_some
set_option linter.unusedVariables false

/-- What a call that turns nothing answers, some memory made. -/
def Tells (v : Value) (w : World) (e : Ending) (w' : World) : Prop := e = .returned v ∧ Stp [] w [] w'

/-- All that a registry is lies below B. -/
structure Low (B r m : Nat) (v : Value) (L : List Ent) : Prop where
  r : r < B
  m : m < B
  v : ∀ k, v.ownBlock = some k → k < B
  a : ∀ x ∈ L, x.b < B ∧ x.g < B
section
variable {W W' : World} {F G G' : List Nat} {r m B : Nat} {v : Value} {D : DataW Unit} {L : List Ent}
theorem Rx.low (h : Rx W F r m v D L) : Low W.heap.size r m v L := ⟨h.lt, h.map.lt, fun k hk => (h.row.lt k hk).2, fun x hx => ⟨(h.ars x hx).lt, (h.ars x hx).row.lt⟩⟩
theorem Rx.keep (h : Rx W F r m v D L) (hl : Low B r m v L) (hs : Stp G W G' W') (hG : ∀ k ∈ G, B ≤ k) : Rx W' F r m v D L := by
  have hn : ∀ k, k < B → k ∉ G := fun k hk e => by have := hG k e; omega
  exact ⟨(hs.block r h.lt (hn r hl.r)).trans h.obj, h.row.other hs (fun k e => hn k (hl.v k e)), owns_stp h.map hs (hn m hl.m), h.like, fun x hx => (h.ars x hx).other hs (hn _ (hl.a x hx).1) (hn _ (hl.a x hx).2), h.pw, h.nm, h.top, h.fr, h.fm, h.fv, h.fa⟩
theorem Low.mono {B' : Nat} (h : Low B r m v L) (hB : B ≤ B') : Low B' r m v L := ⟨Nat.lt_of_lt_of_le h.r hB, Nat.lt_of_lt_of_le h.m hB, fun k hk => Nat.lt_of_lt_of_le (h.v k hk) hB, fun x hx => ⟨Nat.lt_of_lt_of_le (h.a x hx).1 hB, Nat.lt_of_lt_of_le (h.a x hx).2 hB⟩⟩
theorem Low.seen (h : Low B r m v L) {bx : Nat} (hbx : bx < B) : ∀ k ∈ seen bx r m v, k < B := fun k hk => by
  unfold Go.Proofs.Ytmhecgidhdbcgaa.seen at hk
  rcases List.mem_cons.1 hk with e | hk
  · omega
  · rcases List.mem_cons.1 hk with e | hk
    · rw [e]; exact h.r
    · rcases List.mem_cons.1 hk with e | hk
      · rw [e]; exact h.m
      · exact h.v k (by simpa using hk)
theorem grown_stp {row : Option Nat} (hg : W.grownBy W' row) : Stp row.toList W [] W' := Stp.of_grown hg (fun k e => by rw [e]; simp) (fun k h => by cases h)
theorem row_ge {row : Option Nat} {A : World} (hr : ∀ r, row = some r → B ≤ r ∧ ∃ o : Obj, A.heap[r]? = some o ∧ o.isCells = false) : ∀ k ∈ row.toList, B ≤ k := fun k hk => (hr k (by simpa using hk)).1
/-- A step in blocks below B keeps what lies beyond. -/
theorem keepsFrom_stp (h : Stp G W G' W') (hG : ∀ k ∈ G, k < B) : KeepsFrom B W W' :=
  ⟨h.size, fun k o hB hk _ => (h.block k (Array.getElem?_eq_some_iff.1 hk).1 (fun e => by have := hG k e; omega)).trans hk⟩
theorem stp_put (W : World) (d : Nat) (o : Obj) : Stp [d] W [] (W.putObj d o) := grown_stp (grownBy_putObj' W d o)

theorem stp_grown {w : World} {row : Option Nat} (h : Stp F w F W) (hg : W.grownBy W' row) (hr : ∀ k, row = some k → w.heap.size ≤ k) : Stp F w F W' :=
  ⟨hg.os.trans h.os, hg.tape.trans h.tape, hg.output.trans h.output, Nat.le_trans h.size hg.size, fun k hk hF => (hg.block k (Nat.lt_of_lt_of_le hk h.size) (fun e => by have := hr k e.symm; omega)).trans (h.block k hk hF), fun _ h => .inl h⟩
theorem Rx.seen_ne (h : Rx W F r m v D L) {x : Ent} (hx : x ∈ L) {bx : Nat} (hb : bx ≠ x.b) (hg : bx ≠ x.g) {k : Nat} (hk : k ∈ seen bx r m v) : k ∉ [x.b, x.g] := by
  obtain ⟨⟨n1, n2⟩, ⟨n3, n4⟩, n5, n6⟩ := h.ar_ne hx
  unfold seen at hk
  rcases List.mem_cons.1 hk with e | hk
  · rw [e]; simp [hb, hg]
  · rcases List.mem_cons.1 hk with e | hk
    · rw [e]; simp [n1, n2]
    · rcases List.mem_cons.1 hk with e | hk
      · rw [e]; simp [n3, n4]
      · have hk' : v.ownBlock = some k := by simpa using hk
        simp only [List.mem_cons, List.not_mem_nil, or_false, not_or]
        exact ⟨fun q => n5 (by rw [hk', q]), fun q => n6 (by rw [hk', q])⟩

/-- Some of the arenas wiped. -/
def wiped {L : List Ent} (pre : List (Em L)) (M : List Ent) : List Ent := M.map (fun x => { x with l := if pre.any (fun y => y.1.b == x.b) then [] else x.l })
theorem wiped_nil {L : List Ent} (M : List Ent) : wiped (L := L) [] M = M := by
  unfold wiped
  conv => rhs; rw [← List.map_id M]
  exact List.map_congr_left (fun x _ => rfl)
theorem wiped_snoc {L : List Ent} (pre : List (Em L)) (x : Em L) (M : List Ent) : upd (wiped pre M) x.1.b [] = wiped (pre ++ [x]) M := by
  unfold upd wiped
  rw [List.map_map]
  refine List.map_congr_left (fun y _ => ?_)
  simp only [Function.comp_apply, List.any_append, List.any_cons, List.any_nil, Bool.or_false, Bool.or_eq_true, beq_iff_eq]
  by_cases e : y.b = x.1.b
  · simp [e]
  · have e2 : ¬ x.1.b = y.b := fun h => e h.symm
    simp [e, e2]
    by_cases hp : (pre.any fun z => z.1.b == y.b) = true
    · rw [if_pos hp, if_pos (.inl hp)]
    · rw [if_neg hp, if_neg (fun h => h.elim hp e2)]
def wipe (L : List Ent) : List Ent := L.map (fun x => { x with l := [] })
theorem wiped_all {L : List Ent} {ys : List (Em L)} (h : ys.map (·.1) = L) : wiped ys L = wipe L := by
  unfold wiped wipe
  refine List.map_congr_left (fun x hx => ?_)
  have : ∃ y ∈ ys, y.1 = x := by
    rw [← h] at hx
    obtain ⟨y, hy, e⟩ := List.mem_map.1 hx
    exact ⟨y, hy, e⟩
  obtain ⟨y, hy, rfl⟩ := this
  have : ys.any (fun z => z.1.b == y.1.b) = true := List.any_eq_true.2 ⟨y, hy, by simp⟩
  simp [this]
theorem Low.wiped (h : Low B r m v L) (pre : List (Em L)) : Low B r m v (wiped pre L) := ⟨h.r, h.m, h.v, fun x hx => by
  obtain ⟨y, hy, rfl⟩ := List.mem_map.1 hx
  exact h.a y hy⟩

/-- What Wipe answers. -/
def Wiped (W : World) (F : List Nat) (r : Nat) (L : List Ent) (e : Ending) (w' : World) : Prop := e = .returned (.tuple #[]) ∧ Rg w' F r (wipe L) ∧ Stp F W F w'
set_option maxRecDepth 100000 in
set_option maxHeartbeats 2000000 in
theorem wiper_in (h : Rx W F r m v D L) : CallsIn Fence.wide 4 Try.prog 18 #[.pointer (some ⟨r, 0, none⟩)] W (Wiped W F r L) := by
  refine callsIn_of_wp_marks Try.func18 rfl trivial ?_ rfl
  simp only [Try.ntmps18, List.size_toArray, List.length_cons, List.length_nil, Nat.reduceAdd, Nat.reduceSub, Array.replicate_succ, Array.replicate_zero, List.push_toArray, List.append_toArray, List.nil_append, List.cons_append]
  have K1 := Lib.hid (all_fn (some ⟨r, 0, none⟩) W)
  have H := Lib.hid h
  clear h
  gi_wp2_with (refine ⟨trivial, ?_⟩; gi_at_call 29; refine (callsIn_wide.2 K1.out).mono ?_; rintro e w' ⟨rfl, rfl⟩)
  have bN := Boxed.new W 23 (.pointer (some ⟨r, 0, none⟩))
  have hlow := H.out.low
  have hX0 := H.out.stays (Stp.alloc [] W (.cells #[.pointer (some ⟨r, 0, none⟩)] 23))
  refine wpIn_rangeFunc_ownG rfl (by omega) (gf := 34) (lb := #[.pointer (some ⟨W.heap.size, 0, none⟩)]) rfl trivial (enters_of Try.func34 (by kernel_rfl) rfl)
    (iter_stops 3 (by omega) W.heap.size r m v F D L _ bN hX0) KpR.t (KpR.b (by rw [World.size_alloc]; exact (hlow.mono (Nat.le_succ _)).seen (Nat.lt_succ_self _))) (Below.refl _ _) (fun _ => rfl)
    (fun pre W1 => Rx W1 F r m v D (wiped pre L) ∧ Stp F W F W1 ∧ W.heap.size < W1.heap.size)
    (fun _ _ _ => False)
    (fun pre W1 W2 row hI hg hr => ⟨hI.1.keep ((hlow.mono (Nat.le_succ _)).wiped pre) (grown_stp hg) (fun k hk => by have := row_ge hr k hk; rw [World.size_alloc] at this; omega),
      stp_grown hI.2.1 hg (fun k e => by have := (hr k e).1; rw [World.size_alloc] at this; omega), Nat.lt_of_lt_of_le hI.2.2 hg.size⟩)
    (fun _ _ _ _ _ hs _ _ => hs)
    ⟨by rw [wiped_nil]; exact hX0, Stp.alloc _ _ _, by simp⟩
    (fun x => { tmps := #[.pointer (some ⟨r, 0, none⟩), undef, .pointer (some ⟨x.1.b, 0, none⟩), .pointer (some ⟨r, 0, none⟩), .func (.func 34) #[] #[.pointer (some ⟨W.heap.size, 0, none⟩)], .pointer (some ⟨x.1.b, 0, none⟩), undef, undef], defers := [] }) ?assign ?body ?done ?stop
  case assign =>
    intro lp x W1 K hK
    simp only [emVals]
    gi_wp2
    simpa using hK
  case body =>
    rintro lp pre x W1 ⟨hR, hs, hsz⟩ hlt
    have hmem : ({ x.1 with l := if pre.any (fun y => y.1.b == x.1.b) then [] else x.1.l } : Ent) ∈ wiped pre L := List.mem_map.2 ⟨x.1, x.2, rfl⟩
    have K2 := Lib.hid (wipe_run (hR.ars _ hmem))
    have HI := Lib.hid (And.intro hR (And.intro hs hmem))
    clear hR hs
    gi_wp2_with (refine ⟨trivial, ?_⟩; gi_at_call 30; refine (CallsIn.inRound lp (callsIn_wide.2 K2.out)).mono ?_; rintro e w1 ⟨rfl, ha, hs1⟩)
    obtain ⟨hR, hs, hmem⟩ := HI.out
    have hxl := hlow.a x.1 x.2
    have hact := hR.act hmem (l := []) ha hs1
    rw [show upd (wiped pre L) x.1.b [] = wiped (pre ++ [x]) L from wiped_snoc pre x L] at hact
    have hfa := hR.fa _ hmem
    refine ⟨keepsFrom_stp hs1 (fun k hk => ?_), KpR.stp hs1 (fun k hk => ?_), hact, hs.trans (hs1.remake (fun k hk => ?_) (fun k hk => .inl hk)), Nat.lt_of_lt_of_le hsz hs1.size⟩
    · simp at hk
      rw [World.size_alloc]
      omega
    · exact ⟨Nat.lt_of_lt_of_le ((hlow.mono (Nat.le_succ _)).seen (Nat.lt_succ_self _) k hk) hsz, hR.seen_ne hmem (Nat.ne_of_gt hxl.1) (Nat.ne_of_gt hxl.2) hk⟩
    · simp at hk
      rcases hk with e | e
      · rw [e]; exact hfa.1
      · rw [e]; exact hfa.2
  case done =>
    rintro Dk ys W1 hD hys ⟨hR, hs, hsz⟩ hK
    rw [World.size_alloc] at hD
    gi_wp2
    refine ⟨by simp, .inl ⟨_, _, rfl, run_takeDeferred hK, ?_⟩⟩
    refine ⟨_, results_none rfl _ _ _, rfl, ⟨m, v, D, ?_⟩, stp_grown hs (grownBy_putObj' W1 Dk _) (fun k e => by cases e; omega)⟩
    rw [wiped_all hys] at hR
    exact hR.keep (B := W.heap.size) ⟨hlow.r, hlow.m, hlow.v, fun x hx => by
      obtain ⟨y, hy, rfl⟩ := List.mem_map.1 hx
      exact hlow.a y hy⟩ (stp_put W1 Dk _) (fun k hk => by simp at hk; omega)
  case stop =>
    rintro Dk c pre W1 _ _ h _
    exact h.elim
theorem wiper_run (h : Rx W F r m v D L) : Calls Try.prog 18 #[.pointer (some ⟨r, 0, none⟩)] W (Wiped W F r L) := (callsIn_wide (n := 4)).1 (wiper_in h)

theorem results_bool {fn : Func} {p : Tmp} (h : fn.results = #[.cell p 4]) (tmps : Array Value) (w : World) (g : Nat) (x : Bool) (hp : tmps.getD p undef = .pointer (some ⟨g, 0, none⟩)) (hg : Boxed w g 4 (.bool x)) :
    (results fn tmps).run Try.prog w = .ok (.bool x) w := by
  have hp' : tmps[p]?.getD undef = .pointer (some ⟨g, 0, none⟩) := by simpa using hp
  have hc := hg.cell
  simp [results, h, hp', asAddr, go_sem, hc]

set_option maxRecDepth 100000 in
set_option maxHeartbeats 2000000 in
theorem zeror_in (h : Rx W F r m v D L) : CallsIn Fence.wide 4 Try.prog 19 #[.pointer (some ⟨r, 0, none⟩)] W fun e w' => e = .returned (.bool (L.all (fun x => zeros x.l))) ∧ Stp [] W [] w' := by
  refine callsIn_of_wp_marks Try.func19 rfl trivial ?_ rfl
  simp only [Try.ntmps19, List.size_toArray, List.length_cons, List.length_nil, Nat.reduceAdd, Nat.reduceSub, Array.replicate_succ, Array.replicate_zero, List.push_toArray, List.append_toArray, List.nil_append, List.cons_append]
  have K1 := Lib.hid (all_fn (some ⟨r, 0, none⟩))
  have H := Lib.hid h
  clear h
  gi_wp2_with (refine ⟨trivial, ?_⟩; gi_at_call 29; refine (callsIn_wide.2 (K1.out _)).mono ?_; rintro e w' ⟨rfl, rfl⟩)
  have bO := Boxed.new W 4 (.bool false)
  have bN := Boxed.new (W.alloc (.cells #[.bool false] 4)) 23 (.pointer (some ⟨r, 0, none⟩))
  rw [World.size_alloc] at bN
  have hlow := H.out.low
  have st0 : Stp [] W [] ((W.alloc (.cells #[.bool false] 4)).alloc (.cells #[.pointer (some ⟨r, 0, none⟩)] 23)) := (Stp.alloc [] W _).trans (Stp.alloc [] _ _)
  have hX0 := H.out.stays st0
  refine wpIn_rangeFunc_ownG rfl (by omega) (gf := 34) (lb := #[.pointer (some ⟨W.heap.size + 1, 0, none⟩)]) rfl trivial (enters_of Try.func34 (by kernel_rfl) rfl)
    (iter_stops 3 (by omega) (W.heap.size + 1) r m v F D L _ bN hX0) KpR.t (KpR.b (by rw [World.size_alloc, World.size_alloc]; exact (hlow.mono (by omega)).seen (by omega))) (Below.refl _ _) (fun _ => rfl)
    (fun pre W1 => Rx W1 F r m v D L ∧ Stp [] W [] W1 ∧ W.heap.size + 1 < W1.heap.size ∧ Boxed W1 W.heap.size 4 (.bool false) ∧ ∀ x ∈ pre, zeros x.1.l = true)
    (fun c pre W1 => c = .ret ∧ Stp [] W [] W1 ∧ W.heap.size + 1 < W1.heap.size ∧ Boxed W1 W.heap.size 4 (.bool false) ∧ ∃ x ∈ L, zeros x.l = false)
    (fun pre W1 W2 row hI hg hr => ⟨hI.1.keep (hlow.mono (by simp; omega)) (grown_stp hg) (row_ge hr), stp_grown hI.2.1 hg (fun k e => by have := (hr k e).1; rw [World.size_alloc, World.size_alloc] at this; omega), Nat.lt_of_lt_of_le hI.2.2.1 hg.size,
      hI.2.2.2.1.kept hg (fun e => by have := (hr _ e.symm).1; rw [World.size_alloc, World.size_alloc] at this; omega), hI.2.2.2.2⟩)
    (fun c pre W1 W2 row hI hg hr => ⟨hI.1, stp_grown hI.2.1 hg (fun k e => by have := (hr k e).1; rw [World.size_alloc, World.size_alloc] at this; omega), Nat.lt_of_lt_of_le hI.2.2.1 hg.size,
      hI.2.2.2.1.kept hg (fun e => by have := (hr _ e.symm).1; rw [World.size_alloc, World.size_alloc] at this; omega), hI.2.2.2.2⟩)
    ⟨hX0, st0, by simp, bO.alloc _, fun x h => by cases h⟩
    (fun x => { tmps := #[.pointer (some ⟨r, 0, none⟩), undef, .pointer (some ⟨W.heap.size, 0, none⟩), .pointer (some ⟨x.1.b, 0, none⟩), .pointer (some ⟨r, 0, none⟩), .func (.func 34) #[] #[.pointer (some ⟨W.heap.size + 1, 0, none⟩)], .pointer (some ⟨x.1.b, 0, none⟩), undef, undef, undef], defers := [] }) ?assign ?body ?done ?stop
  case assign =>
    intro lp x W1 K hK
    simp only [emVals]
    gi_wp2
    simpa using hK
  case body =>
    rintro lp pre x W1 ⟨hR, hs, hsz, hbo, hz⟩ hlt
    have K2 := Lib.hid (zero_run (hR.ars _ x.2))
    have HI := Lib.hid (And.intro hR (And.intro hs (And.intro hbo hz)))
    have cb : ∀ q, (W1.drewN q).cell? ⟨W.heap.size, 0, none⟩ = some (.bool false) := fun q => hbo.cell
    have fb : ∀ q, (W1.drewN q).frozen? ⟨W.heap.size, 0, none⟩ = false := fun q => hbo.frozen
    clear hR hs hbo hz
    cases hzx : zeros x.1.l
    · rw [hzx] at K2
      gi_wp2_with (refine ⟨trivial, ?_⟩; gi_at_call 23; refine (CallsIn.inRound lp (callsIn_wide.2 K2.out)).mono ?_; rintro e w1 ⟨rfl, q, rfl⟩)
      obtain ⟨hR, hs, hbo, hz⟩ := HI.out
      have s1 : Stp [W.heap.size] W1 [W.heap.size] ((W1.drewN q).setCell ⟨W.heap.size, 0, none⟩ (.bool false)) := (Stp.drewN _ W1 q).trans (Stp.setCell _ _ (by simp))
      refine ⟨keepsFrom_stp s1 (fun k hk => by rw [World.size_alloc, World.size_alloc]; simp at hk; omega), rfl, (hs.fresh s1 (fun k hk => by simp at hk; omega)).none, Nat.lt_of_lt_of_le hsz s1.size, Boxed.set (W := W1.drewN q) _ hbo, x.1, x.2, hzx⟩
    · rw [hzx] at K2
      gi_wp2_with (refine ⟨trivial, ?_⟩; gi_at_call 23; refine (CallsIn.inRound lp (callsIn_wide.2 K2.out)).mono ?_; rintro e w1 ⟨rfl, q, rfl⟩)
      obtain ⟨hR, hs, hbo, hz⟩ := HI.out
      refine ⟨keepsFrom_stp (Stp.drewN [] W1 q) (fun k hk => by cases hk), KpR.stp (Stp.drewN [] W1 q) (fun k hk => ⟨Nat.lt_of_lt_of_le ((hlow.mono (by omega)).seen (by omega) k hk) (Nat.succ_le_of_lt hsz), fun h => by cases h⟩), hR.stays (Stp.drewN [] W1 q), hs.trans (Stp.drewN [] W1 q), hsz, hbo, fun y hy => ?_⟩
      rcases List.mem_append.1 hy with hy | hy
      · exact hz y hy
      · simp at hy
        rw [hy]
        exact hzx
  case done =>
    rintro Dk ys W1 hD hys ⟨hR, hs, hsz, hbo, hz⟩ hK
    have cb := hbo.cell
    have fb := hbo.frozen
    gi_wp2
    rw [World.size_alloc, World.size_alloc] at hD
    have s1 : Stp [W.heap.size] W1 [W.heap.size] (W1.setCell ⟨W.heap.size, 0, none⟩ (.bool true)) := Stp.setCell _ _ (by simp)
    have hK1 : (W1.setCell ⟨W.heap.size, 0, none⟩ (.bool true)).heap[Dk]? = some (.deferred (some [])) := (s1.block Dk (Array.getElem?_eq_some_iff.1 hK).1 (by simp; omega)).trans hK
    have e : L.all (fun x => zeros x.l) = true := List.all_eq_true.2 (fun x hx => by
      rw [← hys] at hx
      obtain ⟨y, hy, rfl⟩ := List.mem_map.1 hx
      exact hz y hy)
    rw [e]
    refine ⟨by simp, .inl ⟨_, _, rfl, run_takeDeferred hK1, ?_⟩⟩
    have hb1 : Boxed (W1.setCell ⟨W.heap.size, 0, none⟩ (.bool true)) W.heap.size 4 (.bool true) := hbo.set _
    refine ⟨_, results_bool rfl _ _ W.heap.size true rfl (hb1.kept (grownBy_putObj' _ Dk _) (by simp; omega)), rfl, stp_grown ((hs.fresh s1 (fun k hk => by simp at hk; omega)).none) (grownBy_putObj' _ Dk _) (fun k e => by cases e; omega)⟩
  case stop =>
    rintro Dk c pre W1 hD _ ⟨rfl, hs, hsz, hbo, hx⟩ hK
    have cb := hbo.cell
    gi_wp2
    rw [World.size_alloc, World.size_alloc] at hD
    have e : L.all (fun x => zeros x.l) = false := List.all_eq_false.2 (by
      obtain ⟨x, hx, hz⟩ := hx
      exact ⟨x, hx, by simp [hz]⟩)
    rw [e]
    refine ⟨by simp, .inl ⟨_, _, rfl, run_takeDeferred hK, ?_⟩⟩
    refine ⟨_, results_bool rfl _ _ W.heap.size false rfl (hbo.kept (grownBy_putObj' _ Dk _) (by simp; omega)), rfl, stp_grown hs (grownBy_putObj' _ Dk _) (fun k e => by cases e; omega)⟩
theorem zeror_run (h : Rx W F r m v D L) : Calls Try.prog 19 #[.pointer (some ⟨r, 0, none⟩)] W (Tells (.bool (L.all (fun x => zeros x.l))) W) := (callsIn_wide (n := 4)).1 (zeror_in h)
end
end Go.Proofs.Ytmhecgidhdbcgaa
