/-
  A number pushed: (*entries).Push, container/heap.Push and (*Queue).Push.
-/
import Derived.Test.YtjjaaahoophgpaaQueue
import Derived.Deep.RegionHeld3
import Derived.Deep.RegionLaw
import Derived.Deep.AppendLies
import Derived.WalkSpells
import Derived.StillTactics
namespace Go.Proofs.Ytjjaaahoophgpaa
open Go.RowKit Go.Lib
set_option linter.unusedVariables false

theorem entry_info : (Try.prog.info? 66).map (fun i => (i.zero, i.size, i.bytes)) = some (some (.agg #[.float .f64 0, .int .i64 0, .int .i64 0]), 3, 24) := by kernel_rfl
def valE (x : Ent) : Value := .agg #[.float .f64 x.m.v, .int .i64 x.n, .int .i64 (x.t : Int)]
theorem cellsE_snoc (l : List Ent) (x : Ent) : cellsE (l ++ [x]) = cellsE l ++ [.float .f64 x.m.v, .int .i64 x.n, .int .i64 (x.t : Int)] := by simp [cellsE, encE]
theorem encE_one (x : Ent) : ∀ u ∈ [Value.float .f64 x.m.v, .int .i64 x.n, .int .i64 (x.t : Int)], u.oneCell' = true := by
  intro u hu
  simp only [List.mem_cons, List.not_mem_nil, or_false] at hu
  rcases hu with rfl | rfl | rfl <;> rfl

theorem assert_entry (u : Value) (w : World) : (Instr.typeAssert (.iface 66 u) 20 66 false).run Try.prog w = .ok u w := by kernel_rfl

variable {W : World} {F : List Nat} {b t : Nat} {v : Value} {l : List Ent}
/-- What an append and the store of its slice leave. -/
theorem Qu.grew (h : Qu W F b v l t) {o : Obj} {x : Ent} {gg cap : Nat} {w1 : World}
    (ho : w1.ownsRow 0 66 3 (.slice (some ⟨gg, 0, none⟩) (l.length + 1) cap) (l.length + 1) (cellsE l ++ [.float .f64 x.m.v, .int .i64 x.n, .int .i64 (x.t : Int)])) (hg : (W.alloc o).drew.grownBy w1 v.ownBlock)
    (hat : v.ownBlock = some gg ∨ gg = W.heap.size + 1) (hlt : gg < w1.heap.size) :
    Qu (w1.setCell ⟨b, 0, none⟩ (.slice (some ⟨gg, 0, none⟩) (l.length + 1) cap)) (gg :: F) b (.slice (some ⟨gg, 0, none⟩) (l.length + 1) cap) (l ++ [x]) t ∧
      Stp F W (gg :: F) (w1.setCell ⟨b, 0, none⟩ (.slice (some ⟨gg, 0, none⟩) (l.length + 1) cap)) := by
  have hb := h.lt
  have hsz : W.heap.size + 1 ≤ w1.heap.size := by
    have := hg.size
    simpa using this
  have hbb : some b ≠ v.ownBlock := fun e => (h.foot2 b e.symm).2 rfl
  have hob : w1.heap[b]? = W.heap[b]? := by
    rw [hg.block b (by simp; omega) hbb]
    exact Below.heap_alloc W o b hb
  have hgf : gg ∈ F ∨ W.heap.size ≤ gg := by
    rcases hat with e | e
    · exact .inl (h.foot2 gg e).1
    · exact .inr (by omega)
  have hgb : gg ≠ b := by
    rcases hat with e | e
    · exact (h.foot2 gg e).2
    · omega
  refine ⟨h.slice hob ?_ (List.mem_cons_of_mem _ h.foot) ?_ ?_, ?_⟩
  · unfold Rw
    rw [List.length_append, cellsE_snoc]
    exact ho
  · intro k e
    simp only [Value.ownBlock, Option.some.injEq] at e
    subst e
    exact ⟨List.mem_cons_self, hgb⟩
  · intro k hk
    rcases List.mem_cons.1 hk with e | e
    · omega
    · have := h.old k e
      omega
  · refine ⟨hg.os, hg.tape, hg.output, by rw [World.size_setCell]; omega, fun k hk hF => ?_, fun k hk => ?_⟩
    · rw [Below.heap_setCell _ _ _ _ (fun e => hF (by rw [e]; exact h.foot)), hg.block k (by simp; omega) (fun e => hF (h.foot2 k e.symm).1)]
      exact Below.heap_alloc W o k hk
    · rcases List.mem_cons.1 hk with e | e
      · subst e
        exact hgf
      · exact .inl e

set_option maxRecDepth 100000 in
set_option maxHeartbeats 3200000 in
theorem epush_run (h : Qu W F b v l t) (x : Ent) (hl : l.length < 1000000) :
    Calls Try.prog 59 #[.pointer (some ⟨b, 0, none⟩), .iface 66 (.agg #[.float .f64 x.m.v, .int .i64 x.n, .int .i64 (x.t : Int)])] W
      fun e w' => e = .returned (.tuple #[]) ∧ ∃ g cap, Qu w' (g :: F) b (.slice (some ⟨g, 0, none⟩) (l.length + 1) cap) (l ++ [x]) t ∧ Stp F W (g :: F) w' := by
  obtain ⟨i0, hi0, hz0, hz1, hz2⟩ := info_parts entry_info
  have hc := h.c0
  have hbl := h.lt
  have hfz := h.f0 0
  have hown : Hid (W.ownsRow 0 66 3 v l.length (cellsE l)) := h.row
  have hne : v.ownBlock ≠ some b := fun e => (h.foot2 b e).2 rfl
  have H := Lib.hid h
  clear h
  have hta := assert_entry (.agg #[.float .f64 x.m.v, .int .i64 x.n, .int .i64 (x.t : Int)])
  go_enter Try.func59, Try.ntmps59
  go_wp2_with fail
  go_region_law
    ((refine step_append_lies _ (by rfl) _ _ _ (by rfl) 0 66 i0 _ 3 24 Try.underlying60 hi0 hz0 hz1 hz2 rfl (by omega) v l.length (cellsE l) (by rfl) ((hown.out.alloc _).drew)
        ⟨W.heap.size, 0, none⟩ 1 1 [.float .f64 x.m.v, .int .i64 x.n, .int .i64 (x.t : Int)] (by rfl) (by rfl) (World.news_of_block (cs := #[.float .f64 x.m.v, .int .i64 x.n, .int .i64 (x.t : Int)]) (t := 66) (fr := (0, 0)) (heap_alloc_new W _)) (encE_one x)
        (by omega) (by unfold maxLen; omega) (by omega) (Nat.zero_le _) (W.heap.size + 1) (by simp) ?_; intro gg cap w1 hown1 hgrow hat hlt; have hc1 : w1.cell? ⟨b, 0, none⟩ = some v := (hgrow.cell_far ⟨b, 0, none⟩ (by simp; omega) (Ne.symm hne)).trans ((World.cell?_alloc_lt _ _ _ hbl).trans hc); have hf1 : w1.frozen? ⟨b, 0, none⟩ = false := (hgrow.frozen_far ⟨b, 0, none⟩ (by simp; omega) (Ne.symm hne)).trans ((World.frozen?_alloc_past _ _ _ hbl).trans hfz)))
  all_goals
    go_end0
    exact ⟨rfl, gg, cap, H.out.grew hown1 hgrow hat hlt⟩

theorem heap_push (h : Qu W F b v l t) (hH : Heap l.length (rkl l)) (x : Ent) (hl : l.length < 1000000) :
    Calls Try.prog 25 #[.iface 64 (.pointer (some ⟨b, 0, none⟩)), .iface 66 (.agg #[.float .f64 x.m.v, .int .i64 x.n, .int .i64 (x.t : Int)])] W
      fun e w' => e = .returned (.tuple #[]) ∧ ∃ F' v' l', Qu w' F' b v' l' t ∧ Stp F W F' w' ∧ Heap l'.length (rkl l') ∧ l'.Perm (l ++ [x]) := by
  have K1 := Lib.hid (epush_run h x hl)
  have M1 := method_push b W
  clear h
  have HH := Lib.hid hH
  clear hH
  go_enter Try.func25, Try.ntmps25
  go_wp2_with fail
  refine K1.out.mono ?_
  rintro _ w1 ⟨rfl, g, cap, h1, hs1⟩
  have H1 := Lib.hid (And.intro h1 hs1)
  have M2 := method_len h1.c0
  have K2 := Lib.hid (len_run (some ⟨g, 0, none⟩) (l.length + 1) cap w1)
  have hup : UpOk (l.length + 1) (rkl (l ++ [x])) l.length := UpOk.of_heap HH.out (fun k hk => by
    unfold rkl
    rw [getElem!_pos _ k (by simp; omega), getElem!_pos l k hk, List.getElem_append_left hk])
  have K3 := Lib.hid (up_run w1 w1 b g cap (l.length + 1) l.length (l ++ [x]) (h1.hp rfl) (by omega) (by omega) hup)
  clear K1 M1 h1 hs1 hup
  go_wp2_with fail
  refine K2.out.mono ?_
  rintro _ w2 ⟨rfl, rfl⟩
  have e1 : ((l.length + 1 : Nat) : Int) - 1 = (l.length : Int) := by omega
  have e2 : IntKind.i64.wrap (l.length : Int) = (l.length : Int) := by rw [IntKind.wrap_i64]; omega
  go_wp2_with fail
  refine K3.out.mono ?_
  rintro _ w3 ⟨rfl, l', h3, hh3, hp3⟩
  have H3 := Lib.hid (And.intro h3 (And.intro hh3 hp3))
  clear K2 K3 M2 h3 hh3 hp3
  go_wp2
  go_end0
  obtain ⟨a, b2⟩ := H1.out.1.of_hp rfl H3.out.1
  refine ⟨rfl, _, _, l', a, H1.out.2.trans b2, ?_, H3.out.2.2⟩
  rw [show l'.length = l.length + 1 from H3.out.1.row.len.symm]
  exact H3.out.2.1
end Go.Proofs.Ytjjaaahoophgpaa
