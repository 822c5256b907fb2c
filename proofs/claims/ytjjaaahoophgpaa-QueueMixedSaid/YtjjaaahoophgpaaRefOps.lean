/-
  The document's Pop and Before at its list.
-/
import Derived.Test.YtjjaaahoophgpaaRefRow
namespace Go.Proofs.Ytjjaaahoophgpaa
open Go.RowKit Go.Lib
set_option linter.unusedVariables false

variable {W : World} {F : List Nat} {b g off n cap : Nat} {v : Value} {l : List Ent}
theorem getElem!_cons_succ' (x : Ent) (l : List Ent) (i : Nat) : (x :: l)[i + 1]! = l[i]! := by simp
theorem Rg.tail {x : Ent} (h : Rg W g off (n + 1) cap (x :: l)) : Rg W g (off + 2) n (cap - 1) l := by
  obtain ⟨cur, h1, h2, h3⟩ := h.row
  have hl := h.len
  have hr := h.room
  have hb := h.big
  refine ⟨by simpa using hl, by omega, by omega, cur, h1, by omega, fun i hi => ?_⟩
  have := h3 (i + 1) (by omega)
  rw [getElem!_cons_succ'] at this
  rw [show off + 2 + i * 2 = off + (i + 1) * 2 by omega]
  exact this
theorem Rg.gone {x : Ent} (h : Rg W g off 1 1 [x]) : Rg W g off 0 0 [] := by
  obtain ⟨cur, h1, h2, h3⟩ := h.row
  exact ⟨rfl, Nat.le_refl _, Nat.zero_le _, cur, h1, by omega, fun i hi => by omega⟩
/-- The slice without its first one, laid into it. -/
theorem Mu.drop {x : Ent} (h : Mu W F b (.slice (some ⟨g, off, none⟩) (n + 1) cap) (x :: l)) {a : Option Addr} (ha : a = if cap = 1 then some ⟨g, off, none⟩ else some ⟨g, off + 2, none⟩) :
    Mu (W.setCell ⟨b, 0, none⟩ (.slice a n (cap - 1))) F b (.slice a n (cap - 1)) l ∧ Stp F W F (W.setCell ⟨b, 0, none⟩ (.slice a n (cap - 1))) := by
  have hF := h.foot2 g rfl
  refine ⟨h.lay rfl ?_ h.foot (fun k e => ?_) h.old, Stp.setCell _ _ h.foot⟩
  · rcases h.row with ⟨e, _⟩ | ⟨g', off', cap', e, hr⟩
    · cases e
    · cases e
      by_cases hc : cap = 1
      · rw [if_pos hc] at ha
        subst ha hc
        have hn0 : l.length = 0 := by have := hr.room; simp at this; exact List.length_eq_zero_iff.2 this
        have hl0 : l = [] := List.length_eq_zero_iff.1 hn0
        subst hl0
        exact .inr ⟨g, off, 0, rfl, hr.gone⟩
      · rw [if_neg hc] at ha
        subst ha
        exact .inr ⟨g, off + 2, cap - 1, rfl, hr.tail⟩
  · rw [ha] at e
    have e' : g = k := by
      by_cases hc : cap = 1
      · rw [if_pos hc] at e; exact Option.some.inj e
      · rw [if_neg hc] at e; exact Option.some.inj e
    subst e'
    exact hF
theorem Mu.form {x : Ent} (h : Mu W F b v (x :: l)) : ∃ g off cap, v = .slice (some ⟨g, off, none⟩) (l.length + 1) cap ∧ Rg W g off (l.length + 1) cap (x :: l) ∧ g < W.heap.size ∧ g ≠ b := by
  rcases h.row with ⟨_, e⟩ | ⟨g, off, cap, e, hr⟩
  · cases e
  · subst e
    exact ⟨g, off, cap, rfl, hr, hr.lt, (h.foot2 g rfl).2⟩

def Mpopped (W : World) (F : List Nat) (b : Nat) (l : List Ent) (e : Ending) (w' : World) : Prop := ∃ u v', e = .returned u ∧ Mu w' F b v' l ∧ Stp F W F w'
set_option maxHeartbeats 1000000 in
theorem mpop_some {x : Ent} (h : Mu W F b v (x :: l)) (hl : l.length < 100000) : Calls Try.prog 17 #[.pointer (some ⟨b, 0, none⟩)] W
    (Mpopped W F b l) := by
  obtain ⟨g, off, cap, rfl, hr, hgl, hgb⟩ := h.form
  have hc := h.c0
  have hbl := h.lt
  have hfz := h.f0 0
  have c0 := hr.c0 (i := 0) (by omega)
  have c1 := hr.c1 (i := 0) (by omega)
  simp only [Nat.zero_mul, Nat.add_zero, List.getElem!_cons_zero] at c0 c1
  have hcap := hr.room
  have n1 : ¬ b = W.heap.size := by omega
  have n2 : ¬ g = W.heap.size := by omega
  have n3 : ¬ W.heap.size = b := by omega
  have n4 : ¬ W.heap.size = g := by omega
  have n5 : ¬ b = W.heap.size + 1 := by omega
  have n6 : ¬ g = W.heap.size + 1 := by omega
  have hbg : ¬ b = g := fun e => hgb e.symm
  have hst := store_float
  have e1 : (0 : Int) < (l.length : Int) + 1 := by omega
  have e0 : ¬ ((l.length : Int) + 1 = 0) := by omega
  have hcz : (1 : Int) ≤ (cap : Int) := by omega
  have hcz2 : 1 ≤ cap := by omega
  have H := Lib.hid h
  clear h hr
  go_enter Try.func17, Try.ntmps17
  go_wp2
  · go_returns
    obtain ⟨m1, s1⟩ := H.out.drop (a := some ⟨g, off, none⟩) (by rw [if_pos h])
    rw [show cap - 1 = 0 by omega] at m1 s1
    exact ⟨_, _, rfl, (m1.stays (Stp.alloc [] _ _)).stays (Stp.alloc [] _ _), (s1.trans (Stp.alloc F _ _)).trans (Stp.alloc F _ _)⟩
  · go_returns
    obtain ⟨m1, s1⟩ := H.out.drop (a := some ⟨g, off + 2, none⟩) (by rw [if_neg h])
    exact ⟨_, _, rfl, (m1.stays (Stp.alloc [] _ _)).stays (Stp.alloc [] _ _), (s1.trans (Stp.alloc F _ _)).trans (Stp.alloc F _ _)⟩
theorem mpop_none (h : Mu W F b v []) : Calls Try.prog 17 #[.pointer (some ⟨b, 0, none⟩)] W (Mpopped W F b []) := by
  obtain ⟨a, cap, rfl⟩ := h.slice
  have hc := h.c0
  have hbl := h.lt
  have hst := store_float
  have H := Lib.hid h
  clear h
  go_enter Try.func17, Try.ntmps17
  go_wp2
  go_returns
  exact ⟨_, _, rfl, H.out.stays (Stp.alloc [] _ _), Stp.alloc F _ _⟩

theorem appM_step {w1 w2 : World} {o : Obj} {v v2 u : Value} {p r : List Ent} {x : Ent} (h : OwnI w1 W.heap.size v (p.map Ent.n) ∧ Mu w1 F b u r ∧ Stp F W F w1) (hF : ∀ k ∈ F, k < W.heap.size)
    (ho : OwnI w2 W.heap.size v2 (p.map Ent.n ++ [x.n])) (hg : (w1.alloc o).grownBy w2 v.ownBlock) : OwnI w2 W.heap.size v2 ((p ++ [x]).map Ent.n) ∧ Mu w2 F b u r ∧ Stp F W F w2 := by
  have hb : ∀ k, v.ownBlock = some k → W.heap.size ≤ k := fun k e => (World.ownsRow.lt h.1 k e).1
  have hsz := h.2.2.size
  have hs2 := hg.size
  rw [World.size_alloc] at hs2
  have st : ∀ k, k < W.heap.size → w2.heap[k]? = w1.heap[k]? := fun k hk => by
    rw [hg.block k (by rw [World.size_alloc]; omega) (fun e => by have := hb k e.symm; omega)]
    exact Below.heap_alloc w1 o k (by omega)
  refine ⟨by simpa using ho, ?_, ?_⟩
  · have q := h.2.1
    refine ⟨(st b (hF b q.foot)).trans q.obj, ?_, q.foot, q.foot2, fun k hk => by have := hF k hk; omega⟩
    rcases q.row with hn | ⟨g, off, cap, rfl, hr⟩
    · exact .inl hn
    · exact .inr ⟨g, off, cap, rfl, hr.kept (st g (hF g (q.foot2 g rfl).1))⟩
  · refine ⟨hg.os.trans h.2.2.os, hg.tape.trans h.2.2.tape, hg.output.trans h.2.2.output, by omega, fun k hk hn => (st k hk).trans (h.2.2.block k hk hn), h.2.2.foot⟩
theorem dropM_step {w2 : World} {v2 : Value} {ns : List Int} {r : List Ent} {x : Ent} {c' : Nat} (h : OwnI w2 W.heap.size v2 ns ∧ Mu w2 F b (.slice (some ⟨g, off, none⟩) (r.length + 1) cap) (x :: r) ∧ Stp F W F w2) (hF : ∀ k ∈ F, k < W.heap.size)
    {a : Option Addr} (ha : a = if cap = 1 then some ⟨g, off, none⟩ else some ⟨g, off + 2, none⟩) (hc : c' = cap - 1) :
    OwnI (w2.setCell ⟨b, 0, none⟩ (.slice a r.length c')) W.heap.size v2 ns ∧ Mu (w2.setCell ⟨b, 0, none⟩ (.slice a r.length c')) F b (.slice a r.length c') r ∧ Stp F W F (w2.setCell ⟨b, 0, none⟩ (.slice a r.length c')) := by
  subst hc
  obtain ⟨m1, s1⟩ := h.2.1.drop ha
  exact ⟨h.1.kept s1 hF, m1, h.2.2.trans s1⟩
def MBefored (W : World) (F : List Nat) (b : Nat) (s : List Ent) (m : Mo) (e : Ending) (w' : World) : Prop :=
  ∃ v v', e = .returned v ∧ OwnI w' W.heap.size v ((upTo m s).map Ent.n) ∧ Mu w' F b v' (beyond m s) ∧ Stp F W F w'
set_option maxHeartbeats 1000000 in
theorem mbefore_run {s : List Ent} (h : Mu W F b v s) (hl : s.length < 100000) (m : Mo) : Calls Try.prog 20 #[.pointer (some ⟨b, 0, none⟩), .float .f64 m.v] W (MBefored W F b s m) := by
  have S0 := Lib.hid h
  clear h
  go_enter Try.func20, Try.ntmps20
  go_wp2
  go_loopg [5] s.length (fun gk v5 wr => ∃ r : List Ent, r.length ≤ gk ∧ Aside (∃ p u, s = p ++ r ∧ (∀ x ∈ p, x.m.key ≤ m.key) ∧ OwnI wr W.heap.size v5 (p.map Ent.n) ∧ Mu wr F b u r ∧ Stp F W F wr))
  case atStart => exact ⟨s, Nat.le_refl _, [], v, rfl, (fun x h => by cases h), World.ownsRow_nil _ _ _ _, S0.out, Stp.refl _ _⟩
  case round =>
    obtain ⟨r, hg, HS⟩ := hrel
    obtain ⟨p, u, HS⟩ : ∃ p u, Aside (s = p ++ r ∧ (∀ x ∈ p, x.m.key ≤ m.key) ∧ OwnI wr W.heap.size u5 (p.map Ent.n) ∧ Mu wr F b u r ∧ Stp F W F wr) := HS.out
    have hc := HS.out.2.2.2.1.c0
    cases r with
    | nil =>
      obtain ⟨A, cap, rfl⟩ := HS.out.2.2.2.1.slice
      go_wp2
      go_ret
      obtain ⟨h1, h2, h3, h4, h5⟩ := HS.out
      obtain ⟨e1, e2⟩ := upTo_of h1 h2 (.inl rfl)
      exact ⟨_, _, rfl, by rw [e1]; exact h3, by rw [e2]; exact h4, h5⟩
    | cons x r =>
      have hrl : r.length < 100000 := by
        have := congrArg List.length HS.out.1
        simp only [List.length_append, List.length_cons] at this
        omega
      obtain ⟨g, off, cap, rfl, hr, hgl, hgb⟩ := HS.out.2.2.2.1.form
      have c0 := hr.c0 (i := 0) (by omega)
      have c1 := hr.c1 (i := 0) (by omega)
      simp only [Nat.zero_mul, Nat.add_zero, List.getElem!_cons_zero] at c0 c1
      have hcap := hr.room
      have e1 : (0 : Int) < (r.length : Int) + 1 := by omega
      have e2 : decide ((r.length : Int) + 1 > 0) = true := decide_eq_true (by omega)
      have hcz : (1 : Int) ≤ (cap : Int) := by omega
      have hcz2 : 1 ≤ cap := by omega
      have KC := Lib.hid (refCompare_any x.m.v m.v x.m.lt m.lt wr)
      clear hr
      by_cases hle : x.m.key ≤ m.key
      · have v1 : cmpN x.m.v m.v ≤ 0 := cmpN_le.2 hle
        have HL : Aside (x.m.key ≤ m.key) := hle
        clear hle
        go_wp2_with fail
        refine KC.out.mono ?_
        rintro _ wr ⟨rfl, rfl⟩
        clear KC
        have hF : Aside (∀ k ∈ F, k < W.heap.size) := S0.out.old
        have H1 : Aside (OwnI wr W.heap.size u5 (p.map Ent.n) ∧ Mu wr F b (.slice (some ⟨g, off, none⟩) (r.length + 1) cap) (x :: r) ∧ Stp F W F wr) := HS.out.2.2
        have hsz := H1.out.2.2.size
        by_cases hc1 : cap = 1
        · go_wp2_with (first
            | (at_builtin
               refine wpList_appI rfl (.tmp 24) (.tmp 32) rfl W.heap.size u5 (p.map Ent.n) rfl (World.ownsRow.alloc H1.out.1 _) ⟨wr.heap.size, 0, none⟩ 1 [x.n] 1 rfl rfl (cell_one_new wr _ _) (by have := congrArg List.length HS.out.1; simp at this ⊢; omega) (by rw [World.size_alloc]; omega) ?_
               intro v2 w2 hown2 hg2
               have H2 : Aside (OwnI w2 W.heap.size v2 ((p ++ [x]).map Ent.n) ∧ Mu w2 F b (.slice (some ⟨g, off, none⟩) (r.length + 1) cap) (x :: r) ∧ Stp F W F w2) := appM_step H1.out hF.out hown2 hg2
               have hc2 := H2.out.2.1.c0
               have hf2 := H2.out.2.1.f0 0
               clear hown2 hg2 hc c0 c1))
          go_roundg r.length
          case measure => simp at hg; omega
          case rel =>
            refine ⟨r, Nat.le_refl _, p ++ [x], _, by rw [HS.out.1]; simp, fun y hy => ?_, dropM_step H2.out hF.out (by rw [if_pos hc1]) (by omega)⟩
            rcases List.mem_append.1 hy with e | e
            · exact HS.out.2.1 y e
            · simp only [List.mem_singleton] at e
              rw [e]
              exact HL.out
        · go_wp2_with (first
            | (at_builtin
               refine wpList_appI rfl (.tmp 24) (.tmp 32) rfl W.heap.size u5 (p.map Ent.n) rfl (World.ownsRow.alloc H1.out.1 _) ⟨wr.heap.size, 0, none⟩ 1 [x.n] 1 rfl rfl (cell_one_new wr _ _) (by have := congrArg List.length HS.out.1; simp at this ⊢; omega) (by rw [World.size_alloc]; omega) ?_
               intro v2 w2 hown2 hg2
               have H2 : Aside (OwnI w2 W.heap.size v2 ((p ++ [x]).map Ent.n) ∧ Mu w2 F b (.slice (some ⟨g, off, none⟩) (r.length + 1) cap) (x :: r) ∧ Stp F W F w2) := appM_step H1.out hF.out hown2 hg2
               have hc2 := H2.out.2.1.c0
               have hf2 := H2.out.2.1.f0 0
               clear hown2 hg2 hc c0 c1))
          go_roundg r.length
          case measure => simp at hg; omega
          case rel =>
            refine ⟨r, Nat.le_refl _, p ++ [x], _, by rw [HS.out.1]; simp, fun y hy => ?_, dropM_step H2.out hF.out (by rw [if_neg hc1]) rfl⟩
            rcases List.mem_append.1 hy with e | e
            · exact HS.out.2.1 y e
            · simp only [List.mem_singleton] at e
              rw [e]
              exact HL.out
      · have v1 : ¬ cmpN x.m.v m.v ≤ 0 := fun e => hle (cmpN_le.1 e)
        have HL : Aside (¬ x.m.key ≤ m.key) := hle
        clear hle
        go_wp2_with fail
        refine KC.out.mono ?_
        rintro _ wr ⟨rfl, rfl⟩
        clear KC
        go_wp2
        go_ret
        obtain ⟨h1, h2, h3, h4, h5⟩ := HS.out
        obtain ⟨e1, e2⟩ := upTo_of h1 h2 (.inr ⟨x, r, rfl, HL.out⟩)
        exact ⟨_, _, rfl, by rw [e1]; exact h3, by rw [e2]; exact h4, h5⟩
end Go.Proofs.Ytjjaaahoophgpaa
