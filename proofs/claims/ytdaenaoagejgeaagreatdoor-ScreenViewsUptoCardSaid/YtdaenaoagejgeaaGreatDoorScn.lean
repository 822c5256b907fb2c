/-
  A screen in memory: its rows, its block; what a step on it leaves.
-/
import Derived.Test.YtdaenaoagejgeaaGreatDoorRow3
import Derived.Test.YtdaenaoagejgeaaGreatDoorOwn
namespace Go.Proofs.YtdaenaoagejgeaaGreatDoor
open Go.RowKit Go.Lib
set_option linter.unusedVariables false

/-- A row: how many blanks, where its characters stand, and they. -/
structure Ro where
  k : Nat
  v : Value
  cs : List Nat
def Ro.t (r : Ro) : List Nat := txt r.k r.cs
def Ro.zero : Ro := ⟨0, .slice none 0 0, []⟩
def two (L : List Ro) : List Value := L.flatMap fun r => [.int .i64 (r.k : Int), r.v]
theorem two_length : ∀ L : List Ro, (two L).length = L.length * 2
  | [] => rfl
  | r :: L => by
    have := two_length L
    unfold two at this ⊢
    simp [this]
    omega
theorem two_app (L M : List Ro) : two (L ++ M) = two L ++ two M := by simp [two]
theorem two_one (l : Ro) : two [l] = [.int .i64 (l.k : Int), l.v] := rfl
theorem row_info : (Tryz.prog.info? 86).map (fun i => (i.zero, i.size, i.bytes)) = some (some (.agg #[.int .i64 0, .slice none 0 0]), 2, 32) := by kernel_rfl
theorem agg_one (L : List Ro) (h : ∀ r ∈ L, r.v.oneCell' = true) : ∀ v ∈ two L, v.oneCell' = true := by
  intro u hu
  simp only [two, List.mem_flatMap, List.mem_cons, List.not_mem_nil, or_false] at hu
  obtain ⟨x, hx, rfl | rfl⟩ := hu
  · rfl
  · exact h x hx
/-- The rows of a screen: those ahead of the last one, and the last one. -/
structure Rws (W : World) (v : Value) (R : Nat) (U : List Ro) (l : Ro) : Prop where
  own : W.ownsRow 0 86 2 v (U.length + 1) (two (U ++ [l]))
  blk : v.ownBlock = some R
  rs : ∀ r ∈ U, Rn W r.v r.cs
  ls : Rn W l.v l.cs
  ap : ∀ r ∈ U, ∀ j, r.v.ownBlock = some j → l.v.ownBlock ≠ some j
section
variable {W W' : World} {v : Value} {R : Nat} {U : List Ro} {l : Ro}
theorem Rws.at (h : Rws W v R U l) : ∃ D cap, v = .slice (some ⟨R, 0, none⟩) (U.length + 1) cap ∧ RowAt W R (two U) D l.k l.v l.cs ∧ U.length + 1 ≤ cap ∧ cap ≤ maxLen ∧ U.length * 2 + 2 + D.length = cap * 2 := by
  rcases h.own.2 with ⟨_, h0⟩ | ⟨g, cap, cur, e, _, hh, hn, hm, hcur, htake⟩
  · omega
  · have hb := h.blk
    rw [e] at hb
    cases hb
    have hc : cur.toList = two U ++ (.int .i64 (l.k : Int) :: l.v :: cur.toList.drop ((U.length + 1) * 2)) := by
      conv => lhs; rw [← List.take_append_drop ((U.length + 1) * 2) cur.toList, htake, two_app, two_one]
      simp
    refine ⟨cur.toList.drop ((U.length + 1) * 2), cap, e, ⟨?_, h.ls⟩, hn, hm, ?_⟩
    · rw [← hc]
      exact hh
    · have e1 : cur.toList.length = cur.size := Array.length_toList
      rw [List.length_drop]
      omega
theorem Rws.lt (h : Rws W v R U l) : R < W.heap.size := by
  obtain ⟨D, cap, _, hr, _⟩ := h.at
  exact hr.lt
theorem Rws.of {D : List Value} {cap k : Nat} {lv : Value} {cs : List Nat} (hr : RowAt W R (two U) D k lv cs) (hn : U.length + 1 ≤ cap) (hm : cap ≤ maxLen) (hd : U.length * 2 + 2 + D.length = cap * 2)
    (rs : ∀ r ∈ U, Rn W r.v r.cs) (ap : ∀ r ∈ U, ∀ j, r.v.ownBlock = some j → lv.ownBlock ≠ some j) : Rws W (.slice (some ⟨R, 0, none⟩) (U.length + 1) cap) R U ⟨k, lv, cs⟩ := by
  refine ⟨⟨by rw [two_length]; simp, .inr ⟨R, cap, _, rfl, Nat.zero_le _, hr.rb, hn, hm, ?_, ?_⟩⟩, rfl, rs, hr.cs, ap⟩
  · simp [two_length]
    omega
  · rw [two_app, two_one]
    have e : (U.length + 1) * 2 = (two U).length + 2 := by rw [two_length]; omega
    simp only [e]
    rw [List.take_append, List.take_of_length_le (by omega), Nat.add_sub_cancel_left]
    rfl
/-- The blocks of a row's characters. -/
def blks (L : List Ro) : List Nat := L.flatMap fun r => r.v.ownBlock.toList
theorem mem_blks {L : List Ro} {j : Nat} : j ∈ blks L ↔ ∃ r ∈ L, r.v.ownBlock = some j := by
  simp [blks, List.mem_flatMap]
theorem Rws.other {F F' : List Nat} (h : Rws W v R U l) (hs : Stp F W F' W') (hR : R ∉ F) (hb : ∀ j ∈ blks (U ++ [l]), j ∉ F) : Rws W' v R U l := by
  refine ⟨⟨h.own.1, ?_⟩, h.blk, fun r hr => (h.rs r hr).other hs (fun j hj => hb j (mem_blks.2 ⟨r, List.mem_append_left _ hr, hj⟩)), h.ls.other hs (fun j hj => hb j (mem_blks.2 ⟨l, by simp, hj⟩)), h.ap⟩
  rcases h.own.2 with hn | ⟨g, cap, cur, e, hb0, hh, rest⟩
  · exact .inl hn
  · have hg := h.blk
    rw [e] at hg
    cases hg
    exact .inr ⟨g, cap, cur, e, hb0, (hs.block g (Array.getElem?_eq_some_iff.1 hh).1 hR).trans hh, rest⟩
theorem Rws.blk_lt (h : Rws W v R U l) : ∀ j ∈ blks (U ++ [l]), j < W.heap.size ∧ ∃ C, W.heap[j]? = some (.cells C 21 (0, 0)) := by
  intro j hj
  obtain ⟨r, hr, hv⟩ := mem_blks.1 hj
  rcases List.mem_append.1 hr with g | g
  · exact ⟨(h.rs r g).lt j hv, (h.rs r g).obj hv⟩
  · obtain rfl := List.mem_singleton.1 g
    exact ⟨h.ls.lt j hv, h.ls.obj hv⟩
theorem Rws.obj (h : Rws W v R U l) : ∃ C, W.heap[R]? = some (.cells C 86 (0, 0)) := by
  obtain ⟨D, cap, _, hr, _⟩ := h.at
  exact ⟨_, hr.rb⟩
theorem Rws.R_ne (h : Rws W v R U l) : R ∉ blks (U ++ [l]) := fun hj => by
  obtain ⟨C, hC⟩ := (h.blk_lt R hj).2
  obtain ⟨C', hC'⟩ := h.obj
  rw [hC'] at hC
  injection hC with hC
  injection hC with _ h2
  exact absurd h2 (by decide)
/-- Behind a call on the last row. -/
theorem Rws.upd {D : List Value} {cap k : Nat} {lv : Value} {cs : List Nat} (h : Rws W (.slice (some ⟨R, 0, none⟩) (U.length + 1) cap) R U l) (hn : U.length + 1 ≤ cap) (hm : cap ≤ maxLen) (hd : U.length * 2 + 2 + D.length = cap * 2)
    (hr : RowAt W' R (two U) D k lv cs) (hs : Stp (R :: l.v.ownBlock.toList) W (R :: lv.ownBlock.toList) W') (hb : lv.ownBlock = l.v.ownBlock ∨ ∀ j, lv.ownBlock = some j → W.heap.size ≤ j) :
    Rws W' (.slice (some ⟨R, 0, none⟩) (U.length + 1) cap) R U ⟨k, lv, cs⟩ := by
  refine Rws.of hr hn hm hd (fun r hr' => (h.rs r hr').other hs (fun j hj => ?_)) (fun r hr' j hj => ?_)
  · rw [List.mem_cons]
    rintro (rfl | e)
    · exact h.R_ne (mem_blks.2 ⟨r, List.mem_append_left _ hr', hj⟩)
    · exact h.ap r hr' j hj (by simpa using e)
  · rcases hb with e | e
    · rw [e]
      exact h.ap r hr' j hj
    · intro g
      have h1 := e j g
      have h2 := (h.rs r hr').lt j hj
      omega
end
/-! ### The screen -/
/-- Where a screen's rows stand, and they. -/
structure Sc where
  R : Nat
  v : Value
  U : List Ro
  l : Ro
def Sc.foot (X : Sc) (s : Nat) : List Nat := s :: X.R :: blks (X.U ++ [X.l])
/-- The screen at s, with the bytes that wait in bv. -/
structure Sx (W : World) (s : Nat) (X : Sc) (bv : Value) (S : Sn) : Prop where
  sb : W.heap[s]? = some (.cells #[X.v, .int .i64 (S.col : Int), .int .i64 (S.bells : Int), .bool S.pa, .int .i64 (S.odd : Int), bv] 51 (0, 0))
  rw : Rws W X.v X.R X.U X.l
  up : S.up = X.U.map Ro.t
  cur : S.cur = X.l.t
  inv : X.l.cs ≠ [] → S.col ≤ X.l.k + X.l.cs.length
section
variable {W W' : World} {s : Nat} {X : Sc} {bv : Value} {S : Sn}
theorem Sx.lt (h : Sx W s X bv S) : s < W.heap.size := (Array.getElem?_eq_some_iff.1 h.sb).1
theorem Sx.c0 (h : Sx W s X bv S) : W.cell? ⟨s, 0, none⟩ = some X.v := by rw [cell_of_row W s _ _ _ _ h.sb]; rfl
theorem Sx.c1 (h : Sx W s X bv S) : W.cell? ⟨s, 1, none⟩ = some (.int .i64 (S.col : Int)) := by rw [cell_of_row W s _ _ _ _ h.sb]; rfl
theorem Sx.c2 (h : Sx W s X bv S) : W.cell? ⟨s, 2, none⟩ = some (.int .i64 (S.bells : Int)) := by rw [cell_of_row W s _ _ _ _ h.sb]; rfl
theorem Sx.c3 (h : Sx W s X bv S) : W.cell? ⟨s, 3, none⟩ = some (.bool S.pa) := by rw [cell_of_row W s _ _ _ _ h.sb]; rfl
theorem Sx.c4 (h : Sx W s X bv S) : W.cell? ⟨s, 4, none⟩ = some (.int .i64 (S.odd : Int)) := by rw [cell_of_row W s _ _ _ _ h.sb]; rfl
theorem Sx.c5 (h : Sx W s X bv S) : W.cell? ⟨s, 5, none⟩ = some bv := by rw [cell_of_row W s _ _ _ _ h.sb]; rfl
theorem Sx.fz (h : Sx W s X bv S) (i : Nat) : W.frozen? ⟨s, i, none⟩ = false := frozen_of_row W s i _ _ h.sb
theorem Sx.s_ne (h : Sx W s X bv S) : s ≠ X.R ∧ s ∉ blks (X.U ++ [X.l]) := by
  refine ⟨fun e => ?_, fun e => ?_⟩
  · obtain ⟨C, hC⟩ := h.rw.obj
    rw [← e, h.sb] at hC
    injection hC with hC
    injection hC with _ h2
    exact absurd h2 (by decide)
  · obtain ⟨C, hC⟩ := (h.rw.blk_lt s e).2
    rw [h.sb] at hC
    injection hC with hC
    injection hC with _ h2
    exact absurd h2 (by decide)
theorem Sx.foot_lt (h : Sx W s X bv S) : ∀ j ∈ X.foot s, j < W.heap.size ∧ ∀ C, W.heap[j]? ≠ some (.cells C 5 (0, 0)) := by
  intro j hj
  have key : ∃ C t, W.heap[j]? = some (.cells C t (0, 0)) ∧ t ≠ 5 := by
    rcases List.mem_cons.1 hj with rfl | hj
    · exact ⟨_, _, h.sb, by decide⟩
    · rcases List.mem_cons.1 hj with rfl | hj
      · obtain ⟨C, hC⟩ := h.rw.obj
        exact ⟨_, _, hC, by decide⟩
      · obtain ⟨C, hC⟩ := (h.rw.blk_lt j hj).2
        exact ⟨_, _, hC, by decide⟩
  obtain ⟨C, t, hC, ht⟩ := key
  refine ⟨(Array.getElem?_eq_some_iff.1 hC).1, fun C' h' => ?_⟩
  rw [hC] at h'
  injection h' with h'
  injection h' with _ h2
  exact ht h2
theorem Sx.other {F F' : List Nat} (h : Sx W s X bv S) (hs : Stp F W F' W') (hF : ∀ j ∈ X.foot s, j ∉ F) : Sx W' s X bv S :=
  ⟨(hs.block s h.lt (hF s List.mem_cons_self)).trans h.sb, h.rw.other hs (hF X.R (List.mem_cons_of_mem _ List.mem_cons_self)) (fun j hj => hF j (List.mem_cons_of_mem _ (List.mem_cons_of_mem _ hj))), h.up, h.cur, h.inv⟩
theorem Sx.stays {F : List Nat} (h : Sx W s X bv S) (hs : Stp [] W F W') : Sx W' s X bv S := h.other hs (fun _ _ h => by cases h)
/-- The screen's own cells turn. -/
theorem Sx.setS {S' : Sn} {bv' : Value} (h : Sx W s X bv S) (hb : W'.heap[s]? = some (.cells #[X.v, .int .i64 (S'.col : Int), .int .i64 (S'.bells : Int), .bool S'.pa, .int .i64 (S'.odd : Int), bv'] 51 (0, 0)))
    (hs : Stp [s] W [s] W') (e1 : S'.up = S.up) (e2 : S'.cur = S.cur) (e3 : X.l.cs ≠ [] → S'.col ≤ X.l.k + X.l.cs.length) : Sx W' s X bv' S' :=
  ⟨hb, h.rw.other hs (by rw [List.mem_singleton]; exact fun e => h.s_ne.1 e.symm) (fun j hj => by rw [List.mem_singleton]; rintro rfl; exact h.s_ne.2 hj), e1.trans h.up, e2.trans h.cur, e3⟩
theorem stp_one (W : World) (s i : Nat) (v : Value) : Stp [s] W [s] (W.setCell ⟨s, i, none⟩ v) := Stp.setCell (F := [s]) (a := ⟨s, i, none⟩) W v (List.mem_singleton.2 rfl)
theorem Sx.setCol (h : Sx W s X bv S) (c : Nat) (hc : X.l.cs ≠ [] → c ≤ X.l.k + X.l.cs.length) : Sx (W.setCell ⟨s, 1, none⟩ (.int .i64 (c : Int))) s X bv { S with col := c } := by
  refine h.setS ?_ (stp_one W s 1 _) rfl rfl hc
  rw [heap_setCell_same W s 1 _ _ _ h.sb]
  rfl
theorem Sx.setBells (h : Sx W s X bv S) (c : Nat) : Sx (W.setCell ⟨s, 2, none⟩ (.int .i64 (c : Int))) s X bv { S with bells := c } := by
  refine h.setS ?_ (stp_one W s 2 _) rfl rfl h.inv
  rw [heap_setCell_same W s 2 _ _ _ h.sb]
  rfl
theorem Sx.setPa (h : Sx W s X bv S) (c : Bool) : Sx (W.setCell ⟨s, 3, none⟩ (.bool c)) s X bv { S with pa := c } := by
  refine h.setS ?_ (stp_one W s 3 _) rfl rfl h.inv
  rw [heap_setCell_same W s 3 _ _ _ h.sb]
  rfl
theorem Sx.setOdd (h : Sx W s X bv S) (c : Nat) : Sx (W.setCell ⟨s, 4, none⟩ (.int .i64 (c : Int))) s X bv { S with odd := c } := by
  refine h.setS ?_ (stp_one W s 4 _) rfl rfl h.inv
  rw [heap_setCell_same W s 4 _ _ _ h.sb]
  rfl
theorem Sx.setBv (h : Sx W s X bv S) (c : Value) : Sx (W.setCell ⟨s, 5, none⟩ c) s X c S := by
  refine h.setS ?_ (stp_one W s 5 _) rfl rfl h.inv
  rw [heap_setCell_same W s 5 _ _ _ h.sb]
  rfl
/-- The last row turns. -/
theorem Sx.upd {D : List Value} {cap k : Nat} {lv : Value} {cs : List Nat} (h : Sx W s X bv S) (hv : X.v = .slice (some ⟨X.R, 0, none⟩) (X.U.length + 1) cap) (hn : X.U.length + 1 ≤ cap) (hm : cap ≤ maxLen) (hd : X.U.length * 2 + 2 + D.length = cap * 2)
    (hr : RowAt W' X.R (two X.U) D k lv cs) (hs : Stp (X.R :: X.l.v.ownBlock.toList) W (X.R :: lv.ownBlock.toList) W') (hb : lv.ownBlock = X.l.v.ownBlock ∨ ∀ j, lv.ownBlock = some j → W.heap.size ≤ j)
    (hi : cs ≠ [] → S.col ≤ k + cs.length) : Sx W' s { X with l := ⟨k, lv, cs⟩ } bv { S with cur := txt k cs } ∧ Stp (X.foot s) W (Sc.foot { X with l := ⟨k, lv, cs⟩ } s) W' := by
  have h0 := h.rw
  rw [hv] at h0
  refine ⟨⟨(hs.block s h.lt ?_).trans h.sb, by rw [show X.v = _ from hv]; exact h0.upd hn hm hd hr hs hb, h.up, rfl, hi⟩, ?_⟩
  · rw [List.mem_cons]
    rintro (e | e)
    · exact h.s_ne.1 e
    · exact h.s_ne.2 (mem_blks.2 ⟨X.l, by simp, by simpa using e⟩)
  · refine ⟨hs.os, hs.tape, hs.output, hs.size, fun j hj hF => hs.block j hj (fun e => hF ?_), fun j hj => ?_⟩
    · rcases List.mem_cons.1 e with rfl | e
      · exact List.mem_cons_of_mem _ List.mem_cons_self
      · exact List.mem_cons_of_mem _ (List.mem_cons_of_mem _ (mem_blks.2 ⟨X.l, by simp, by simpa using e⟩))
    · rcases List.mem_cons.1 hj with rfl | hj
      · exact .inl List.mem_cons_self
      · rcases List.mem_cons.1 hj with rfl | hj
        · exact .inl (List.mem_cons_of_mem _ List.mem_cons_self)
        · obtain ⟨r, hr', hv'⟩ := mem_blks.1 hj
          rcases List.mem_append.1 hr' with g | g
          · exact .inl (List.mem_cons_of_mem _ (List.mem_cons_of_mem _ (mem_blks.2 ⟨r, List.mem_append_left _ g, hv'⟩)))
          · obtain rfl := List.mem_singleton.1 g
            rcases hb with e | e
            · exact .inl (List.mem_cons_of_mem _ (List.mem_cons_of_mem _ (mem_blks.2 ⟨X.l, by simp, by rw [← e]; exact hv'⟩)))
            · exact .inr (e j hv')
theorem stp_foot (h : Stp [s] W [s] W') (X : Sc) : Stp (X.foot s) W (X.foot s) W' := h.more (by simp [Sc.foot])
end
/-! ### One row more -/
theorem appW {W : World} {v : Value} {R : Nat} {U : List Ro} {l : Ro} (ty : TypeId) (h : Rws W v R U l) {b : Nat} (hz : W.cell? ⟨b, 0, none⟩ = some (.int .i64 0)) (hz1 : W.cell? ⟨b, 1, none⟩ = some (.slice none 0 0)) (hn : U.length ≤ 1000000) :
    ∃ v' w' R', (Builtin.append_ #[49, 49] ty #[v, .slice (some ⟨b, 0, none⟩) 1 1]).run Tryz.prog W = .ok v' w' ∧ Rws w' v' R' (U ++ [l]) Ro.zero ∧ Stp [R] W [R'] w' := by
  obtain ⟨i0, hi0, hz0, hzs, hzb⟩ := info_parts row_info
  obtain ⟨v', w', hrun, h2, h3, _, h5⟩ := run_append_own_at (P := Tryz.prog) W 0 _ ty _ i0 _ 2 32 Tryz.underlying49 hi0 hz0 hzs hzb rfl (by omega) v _ _ h.own ⟨b, 0, none⟩ 1 1 [.int .i64 0, .slice none 0 0] rfl
    (by
      intro j u hu
      rw [addr_add, Nat.zero_add]
      match j, hu with
      | 0, hu => cases hu; exact hz
      | 1, hu => cases hu; exact hz1
      | j + 2, hu => simp at hu)
    (by intro u hu; simp at hu; rcases hu with rfl | rfl <;> rfl) (by unfold maxLen; omega) (by omega) (Nat.zero_le _)
  have hs : Stp [R] W [] w' := ⟨h3.os, h3.tape, h3.output, h3.size, fun k hk hF => h3.block k hk (by rw [h.blk]; intro e; exact hF (by rw [Option.some.inj e]; exact List.mem_cons_self)), fun _ g => by cases g⟩
  have hR' : ∃ R', v'.ownBlock = some R' ∧ (R' = R ∨ R' = W.heap.size) := by
    rcases h5 with e | e
    · exact ⟨R, e.trans h.blk, .inl rfl⟩
    · exact ⟨_, e, .inr rfl⟩
  obtain ⟨R', e1, e2⟩ := hR'
  refine ⟨v', w', R', hrun, ⟨?_, e1, fun r hr => ?_, Rn.nil _, fun _ _ _ _ h => (by cases h)⟩, ⟨hs.os, hs.tape, hs.output, hs.size, hs.block, fun j hj => ?_⟩⟩
  · have e3 : two (U ++ [l] ++ [Ro.zero]) = two (U ++ [l]) ++ [.int .i64 0, .slice none 0 0] := by rw [two_app]; rfl
    rw [e3, List.length_append]
    exact h2
  · have hj : ∀ j, r.v.ownBlock = some j → j ∉ [R] := fun j hj => by
      rw [List.mem_singleton]
      rintro rfl
      exact h.R_ne (mem_blks.2 ⟨r, hr, hj⟩)
    rcases List.mem_append.1 hr with g | g
    · exact (h.rs r g).other hs hj
    · obtain rfl := List.mem_singleton.1 g
      exact h.ls.other hs hj
  · rw [List.mem_singleton.1 hj]
    rcases e2 with e | e
    · exact .inl (by rw [e]; exact List.mem_cons_self)
    · exact .inr (by omega)
theorem wpList_appW {W : World} {ops : Array Oper} {rest : List Oper} {o : Oper} {a : Act} {Q : Exit → Act → World → Prop} (hgd : o.guard = none) (s x : Operand)
    (ho : o.op = .call { callee := .builtin .append, args := #[s, x], argTypes := #[49, 49] }) {v : Value} {R : Nat} {U : List Ro} {l : Ro} (hs : a.eval s = v) (h : Rws W v R U l) {b : Nat} (hx : a.eval x = .slice (some ⟨b, 0, none⟩) 1 1)
    (hz : W.cell? ⟨b, 0, none⟩ = some (.int .i64 0)) (hz1 : W.cell? ⟨b, 1, none⟩ = some (.slice none 0 0)) (hn : U.length ≤ 1000000)
    (hQ : ∀ v' w' R', Rws w' v' R' (U ++ [l]) Ro.zero → Stp [R] W [R'] w' → wpList Tryz.prog ops Q rest (a.put o.dst v') w') : wpList Tryz.prog ops Q (o :: rest) a W := by
  refine wpList_plain hgd fun K hK => ?_
  obtain ⟨v', w', R', hrun, h2, h3⟩ := appW o.type h hz hz1 hn
  unfold Oper.wp execOp
  simp only [ho, resolve, invoke, builtin, Sem.run_bind, Sem.run_pure, Result.andThen_ok, List.map_toArray, List.map_cons, List.map_nil, hs, hx, hrun]
  exact hK _ _ (hQ v' w' R' h2 h3)
/-- One row more, behind the store of its slice. -/
theorem Sx.more {W W3 : World} {s : Nat} {X : Sc} {bv : Value} {S : Sn} {O : Obj} {v' : Value} {R' : Nat} (h : Sx W s X bv S) (hr : Rws W3 v' R' (X.U ++ [X.l]) Ro.zero) (hs : Stp [X.R] (W.alloc O) [R'] W3) :
    Sx (W3.setCell ⟨s, 0, none⟩ v') s ⟨R', v', X.U ++ [X.l], Ro.zero⟩ bv { S with up := S.up ++ [S.cur], cur := [] } ∧ Stp (X.foot s) W (Sc.foot ⟨R', v', X.U ++ [X.l], Ro.zero⟩ s) (W3.setCell ⟨s, 0, none⟩ v') := by
  have hA : Stp [X.R] W [R'] W3 := (Stp.alloc [X.R] W O).trans hs
  have hsb : W3.heap[s]? = some (.cells #[X.v, .int .i64 (S.col : Int), .int .i64 (S.bells : Int), .bool S.pa, .int .i64 (S.odd : Int), bv] 51 (0, 0)) := (hA.block s h.lt (by rw [List.mem_singleton]; exact h.s_ne.1)).trans h.sb
  have hs1 := stp_one W3 s 0 v'
  have hne : ∀ j C, W3.heap[j]? = some (.cells C 86 (0, 0)) → j ∉ [s] := fun j C hC => by
    rw [List.mem_singleton]
    rintro rfl
    rw [hsb] at hC
    injection hC with hC
    injection hC with _ h2
    exact absurd h2 (by decide)
  have hne2 : ∀ j C, W3.heap[j]? = some (.cells C 21 (0, 0)) → j ∉ [s] := fun j C hC => by
    rw [List.mem_singleton]
    rintro rfl
    rw [hsb] at hC
    injection hC with hC
    injection hC with _ h2
    exact absurd h2 (by decide)
  obtain ⟨CR, hCR⟩ := hr.obj
  refine ⟨⟨?_, hr.other hs1 (hne R' CR hCR) (fun j hj => by obtain ⟨C, hC⟩ := (hr.blk_lt j hj).2; exact hne2 j C hC), ?_, rfl, fun e => absurd rfl e⟩, ?_⟩
  · rw [heap_setCell_same W3 s 0 _ _ _ hsb]
    rfl
  · show S.up ++ [S.cur] = (X.U ++ [X.l]).map Ro.t
    rw [List.map_append, h.up, h.cur]
    rfl
  · refine ⟨hs1.os.trans hA.os, hs1.tape.trans hA.tape, hs1.output.trans hA.output, Nat.le_trans hA.size hs1.size, fun j hj hF => (hs1.block j (Nat.lt_of_lt_of_le hj hA.size) (fun e => hF (by rw [List.mem_singleton.1 e]; exact List.mem_cons_self))).trans (hA.block j hj (fun e => hF (by rw [List.mem_singleton.1 e]; exact List.mem_cons_of_mem _ List.mem_cons_self))), fun j hj => ?_⟩
    rcases List.mem_cons.1 hj with rfl | hj
    · exact .inl List.mem_cons_self
    · rcases List.mem_cons.1 hj with rfl | hj
      · rcases hA.foot _ (List.mem_singleton.2 rfl) with e | e
        · exact .inl (by rw [List.mem_singleton.1 e]; exact List.mem_cons_of_mem _ List.mem_cons_self)
        · exact .inr e
      · refine .inl (List.mem_cons_of_mem _ (List.mem_cons_of_mem _ ?_))
        obtain ⟨r, hr', hv'⟩ := mem_blks.1 hj
        rcases List.mem_append.1 hr' with g | g
        · exact mem_blks.2 ⟨r, g, hv'⟩
        · rw [List.mem_singleton.1 g] at hv'
          cases hv'
/-- What a step on a screen answers and leaves. -/
def Did (W : World) (s : Nat) (X : Sc) (bv v : Value) (S' : Sn) (e : Ending) (w' : World) : Prop := e = .returned v ∧ ∃ X', Sx w' s X' bv S' ∧ Stp (X.foot s) W (X'.foot s) w'
end Go.Proofs.YtdaenaoagejgeaaGreatDoor
