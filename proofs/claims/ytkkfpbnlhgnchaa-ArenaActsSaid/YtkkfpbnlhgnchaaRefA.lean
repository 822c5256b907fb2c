/-
  The document's list in memory: its calls.
-/
import Derived.Test.YtkkfpbnlhgnchaaGreat
import Derived.Deep.RegionLaw
import Derived.Deep.DrawnRows
namespace Go.Proofs.Ytkkfpbnlhgnchaa
open Go.RowKit Go.Lib
set_option linter.unusedVariables false

/-- The document's arena: a list of bytes, and how many cells there are. -/
structure Rf (W : World) (p N : Nat) (A : Option Addr) (c : Nat) (l : List UInt8) : Prop where
  obj : W.heap[p]? = some (.cells #[.slice A l.length c, .int .i64 (N : Int)] 33 (0, 0))
  bts : Bts W A l
  nil : A = none → c = 0
  cap : l.length ≤ c
  apart : ∀ ad, A = some ad → ad.block ≠ p ∧ ad.block < W.heap.size
section
variable {W W' : World} {p N c : Nat} {A : Option Addr} {l : List UInt8}
theorem Rf.lt (h : Rf W p N A c l) : p < W.heap.size := (Array.getElem?_eq_some_iff.1 h.obj).1
theorem Rf.c0 (h : Rf W p N A c l) : W.cell? ⟨p, 0, none⟩ = some (.slice A l.length c) := by rw [cell_of_row W p 0 _ _ _ h.obj]; rfl
theorem Rf.c1 (h : Rf W p N A c l) : W.cell? ⟨p, 1, none⟩ = some (.int .i64 (N : Int)) := by rw [cell_of_row W p 1 _ _ _ h.obj]; rfl
theorem Rf.f0 (h : Rf W p N A c l) : W.frozen? ⟨p, 0, none⟩ = false := frozen_of_row W p 0 _ _ h.obj
theorem Rf.other {F F' : List Nat} (h : Rf W p N A c l) (hs : Stp F W F' W') (hp : p ∉ F) (hA : ∀ ad, A = some ad → ad.block ∉ F) : Rf W' p N A c l :=
  ⟨(hs.block p h.lt hp).trans h.obj, h.bts.other hs (fun _ => hA), h.nil, h.cap, fun ad e => ⟨(h.apart ad e).1, Nat.lt_of_lt_of_le (h.apart ad e).2 hs.size⟩⟩
theorem Rf.stays {F' : List Nat} (h : Rf W p N A c l) (hs : Stp [] W F' W') : Rf W' p N A c l := h.other hs (fun h => by cases h) (fun _ _ h => by cases h)
/-- A new list stored. -/
theorem Rf.lay {A' : Option Addr} {c' : Nat} {l' : List UInt8} (h : Rf W p N A c l) (hs : Stp [] W [] W') (hb : Bts W' A' l') (hn : A' = none → c' = 0) (hc : l'.length ≤ c') (hA : ∀ ad, A' = some ad → W.heap.size ≤ ad.block ∧ ad.block < W'.heap.size) :
    Rf (W'.setCell ⟨p, 0, none⟩ (.slice A' l'.length c')) p N A' c' l' ∧ Stp [p] W [p] (W'.setCell ⟨p, 0, none⟩ (.slice A' l'.length c')) := by
  have ho := (hs.block p h.lt (fun h => by cases h)).trans h.obj
  have hp := h.lt
  refine ⟨⟨heap_setCell_same W' p 0 _ _ _ ho, ?_, hn, hc, fun ad e => ⟨?_, ?_⟩⟩, (hs.more (fun k h => by cases h)).trans (Stp.setCell _ _ (by simp))⟩
  · exact hb.other (Stp.setCell (F := [p]) (a := ⟨p, 0, none⟩) W' _ (by simp)) (fun _ ad e => by have := (hA ad e).1; simp; omega)
  · have := (hA ad e).1
    omega
  · rw [World.size_setCell]
    exact (hA ad e).2
end
/-- An append at a step of a region that draws its order. -/
theorem step_app {w : World} {ops : Array Oper} {o : Oper} {a : Act} {K : Act → World → Prop} {Q : Exit → Act → World → Prop} {E : Prop} (hgd : o.guard = none) (s x : Operand)
    (ho : o.op = .call { callee := .builtin .append, args := #[s, x], argTypes := #[31, 31] }) (base : Nat) (v : Value) (xs : List UInt8) (hs : a.eval s = v) (hown : Own w base v xs)
    (A : Option Addr) (c n : Nat) (l : List UInt8) (hn : n = l.length) (hx : a.eval x = .slice A n c) (hl : Bts w A l) (hA : A = none → c = 0) (h63 : xs.length + l.length ≤ 1000000) (hbase : base ≤ w.heap.size)
    (h : ∀ v' w', Own w' base v' (xs ++ l) → w.grownBy w' v.ownBlock → K (a.put o.dst v') w') :
    if Region.wanted o (yielded ops a.tmps) = true then Oper.wp Try.prog o a w K Q else E := by
  have hw : Region.wanted o (yielded ops a.tmps) = true := by simp [Region.wanted, hgd]
  rw [if_pos hw]
  subst hn
  obtain ⟨v', w', hrun, h2, h3, h4⟩ := run_app o.type hown hl hA h63 hbase
  unfold Oper.wp execOp
  simp only [ho, resolve, invoke, builtin, Sem.run_bind, Sem.run_pure, Result.andThen_ok, List.map_toArray, List.map_cons, List.map_nil, hs, hx, hrun]
  exact h v' w' h2 h3
theorem cutp_nil {A : Option Addr} {c i : Nat} (hn : A = none → c = 0) : cutp A i c = none → c - i = 0 := fun h => by
  unfold cutp at h
  split at h
  · omega
  · rcases A with _ | x
    · rw [hn rfl]
      omega
    · cases h

section
variable {W : World} {p N c : Nat} {A : Option Addr} {l : List UInt8}
theorem rdel_no (h : Rf W p N A c l) (i j : Int) (hi : i < 0 ∨ j < i ∨ (l.length : Int) < j) : Calls Try.prog 16 #[.pointer (some ⟨p, 0, none⟩), .int .i64 i, .int .i64 j] W (Gives (.int .i64 3) W) := by
  have c0 := h.c0
  clear h
  generalize l.length = n at *
  by_cases h0 : i < 0
  · clear hi
    go_enter Try.func16, Try.ntmps16
    go_wp2
    go_ret
    exact ⟨rfl, rfl⟩
  · by_cases h1 : j < i
    · clear hi
      go_enter Try.func16, Try.ntmps16
      go_wp2
      go_ret
      exact ⟨rfl, rfl⟩
    · have h2 : (n : Int) < j := by omega
      clear hi
      go_enter Try.func16, Try.ntmps16
      go_wp2
      go_ret
      exact ⟨rfl, rfl⟩
/-- What the document's call leaves. -/
def Refd (p N : Nat) (A : Option Addr) (r : Int × List UInt8) (W : World) (e : Ending) (w' : World) : Prop :=
  e = .returned (.int .i64 r.1) ∧ ∃ A' c', Rf w' p N A' c' r.2 ∧ (∀ ad, A' = some ad → A = some ad ∨ W.heap.size ≤ ad.block) ∧ Stp [p] W [p] w'
attribute [local go_sem ↓] Go.wp_at_zero Go.wp_at_succ in
set_option maxRecDepth 100000 in
set_option maxHeartbeats 3200000 in
theorem rdel_run (h : Rf W p N A c l) (i j : Nat) (hi : i ≤ j) (hj : j ≤ l.length) (hl : l.length ≤ 4096) :
    Calls Try.prog 16 #[.pointer (some ⟨p, 0, none⟩), .int .i64 (i : Int), .int .i64 (j : Int)] W (Refd p N A (0, l.take i ++ l.drop j) W) := by
  have c0 := h.c0
  have hbl := h.lt
  have hfz := h.f0
  have hcap := h.cap
  obtain ⟨n, hn⟩ : ∃ n, n = l.length := ⟨_, rfl⟩
  rw [← hn] at c0 hj hl hcap
  have H : Aside (Rf W p N A c l ∧ n = l.length) := ⟨h, hn⟩
  have s1 := cut_h A n c i (by omega)
  have s2 := cut_l A n c j (by omega)
  have HC : Aside (cutp A j c = none → c - j = 0) := cutp_nil h.nil
  have HN : Aside (A = none → c = 0) := h.nil
  have HT : Aside (∀ w', Stp [] W [] w' → Bts w' A (l.take i) ∧ Bts w' (cutp A j c) (l.drop j)) := fun w' hs => by
    refine ⟨Bts.head (M' := l.drop i) (by rw [List.take_append_drop]; exact h.bts.stays hs), ?_⟩
    have := (h.bts.stays hs).cut (i := j) (j := l.length) (N := c) (by omega) (Nat.le_refl _) (by omega)
    rw [List.take_of_length_le (by simp)] at this
    exact this
  have HL : Aside (i = (l.take i).length ∧ n - j = (l.drop j).length ∧ (l.take i).length + (l.drop j).length ≤ 5000) := ⟨by simp; omega, by simp; omega, by simp; omega⟩
  obtain ⟨Aj, eAj⟩ : ∃ a, a = cutp A j c := ⟨_, rfl⟩
  obtain ⟨nj, enj⟩ : ∃ k, k = n - j := ⟨_, rfl⟩
  obtain ⟨cj, ecj⟩ : ∃ k, k = c - j := ⟨_, rfl⟩
  rw [← eAj, ← ecj] at HC
  rw [← eAj, ← enj, ← ecj] at s2
  rw [← eAj] at HT
  rw [← enj] at HL
  obtain ⟨X, eX⟩ : ∃ X, X = l.take i := ⟨_, rfl⟩
  obtain ⟨Y, eY⟩ : ∃ Y, Y = l.drop j := ⟨_, rfl⟩
  rw [← eX, ← eY] at HT HL
  rw [← eX, ← eY]
  clear h hn eAj enj ecj eX eY
  have i1 : ¬ (i : Int) < 0 := by omega
  have i2 : ¬ (j : Int) < (i : Int) := by omega
  have i3 : ¬ (n : Int) < (j : Int) := by omega
  have HS0 : Aside (Stp [] W [] (W.alloc (.cells #[] 5)).drew) := (Stp.alloc [] W _).trans (Stp.drew [] _)
  have HO0 : Aside (Own (W.alloc (.cells #[] 5)).drew W.heap.size (.slice (some ⟨W.heap.size, 0, none⟩) 0 0) []) := Own.new W
  go_enter Try.func16, Try.ntmps16
  go_wp2_with fail
  go_region_law
    (first
      | (refine step_app (by rfl) (.tmp 24) (.tmp 30) (by rfl) W.heap.size (.slice (some ⟨W.heap.size, 0, none⟩) 0 0) [] (by rfl) HO0.out A c i X HL.out.1 (by rfl) (HT.out _ HS0.out).1 HN.out (by have := HL.out; simp; omega) (by simp) ?_
         intro v1 w1 ho1 hg1
         rw [List.nil_append] at ho1
         have HS1 : Aside (Stp [] W [] w1 ∧ Own w1 W.heap.size v1 X) := ⟨HS0.out.app hg1 (fun k hk => by cases hk; exact Nat.le_refl _), ho1⟩
         have c1 : w1.cell? ⟨p, 0, none⟩ = some (.slice A n c) := (HS1.out.1.cell (a := ⟨p, 0, none⟩) hbl (fun h => by cases h)).trans c0
         clear ho1 hg1)
      | (refine step_app (by rfl) (.tmp 31) (.tmp 37) (by rfl) W.heap.size v1 X (by rfl) HS1.out.2 Aj cj nj Y HL.out.2.1 (by rfl) (HT.out _ HS1.out.1).2 HC.out (by have := HL.out; omega) (HS1.out.1.size) ?_
         intro v2 w2 ho2 hg2
         obtain ⟨A2, c2, rfl, hb2, hn2, hc2, hbb2⟩ := ho2.bts
         have HS2 : Aside (Stp [] W [] w2 ∧ Bts w2 A2 (X ++ Y) ∧ (A2 = none → c2 = 0) ∧ (X ++ Y).length ≤ c2 ∧ ∀ ad, A2 = some ad → W.heap.size ≤ ad.block ∧ ad.block < w2.heap.size) := ⟨HS1.out.1.app hg2 (fun k hk => (HS1.out.2.lt k hk).1), hb2, hn2, hc2, hbb2⟩
         have c2' : w2.cell? ⟨p, 0, none⟩ = some (.slice A n c) := (HS2.out.1.cell (a := ⟨p, 0, none⟩) hbl (fun h => by cases h)).trans c0
         have f2' : w2.frozen? ⟨p, 0, none⟩ = false := (World.frozen?_of_block (a := ⟨p, 0, none⟩) (HS2.out.1.block p hbl (fun h => by cases h))).trans hfz
         clear ho2 hg2 hb2 hn2 hc2 hbb2))
  all_goals
    go_wp2
    go_ret
    obtain ⟨q1, q2⟩ := H.out.1.lay HS2.out.1 HS2.out.2.1 HS2.out.2.2.1 HS2.out.2.2.2.1 HS2.out.2.2.2.2
    rw [← List.length_append]
    exact ⟨rfl, _, _, q1, fun ad e => .inr (HS2.out.2.2.2.2 ad e).1, q2⟩
theorem rins_out (h : Rf W p N A c l) (i : Int) (v : Value) (hi : i < 0 ∨ (l.length : Int) < i) : Calls Try.prog 14 #[.pointer (some ⟨p, 0, none⟩), .int .i64 i, v] W (Gives (.int .i64 3) W) := by
  have c0 := h.c0
  clear h
  generalize l.length = n at *
  by_cases h0 : i < 0
  · clear hi
    go_enter Try.func14, Try.ntmps14
    go_wp2
    go_ret
    exact ⟨rfl, rfl⟩
  · have h2 : (n : Int) < i := by omega
    clear hi
    go_enter Try.func14, Try.ntmps14
    go_wp2
    go_ret
    exact ⟨rfl, rfl⟩
theorem rins_full (h : Rf W p N A c l) (i : Nat) (P : Option Addr) (m cx : Nat) (hi : i ≤ l.length) (hl : l.length ≤ 4096) (hm : m ≤ 4096) (hn : N < l.length + m) : Calls Try.prog 14 #[.pointer (some ⟨p, 0, none⟩), .int .i64 (i : Int), .slice P m cx] W (Says (.int .i64 4) W) := by
  have c0 := h.c0
  have c1 := h.c1
  clear h
  generalize l.length = n at *
  have i1 : ¬ (i : Int) < 0 := by omega
  have i2 : ¬ (n : Int) < (i : Int) := by omega
  have i3 : IntKind.i64.wrap ((n : Int) + (m : Int)) = (n : Int) + (m : Int) := by rw [IntKind.wrap_i64]; omega
  have i4 : (N : Int) < (n : Int) + (m : Int) := by omega
  go_enter Try.func14, Try.ntmps14
  go_wp2_with fail
  go_quiet (fail)
  go_wp2
  go_ret
  exact ⟨rfl, _, rfl⟩
attribute [local go_sem ↓] Go.wp_at_zero Go.wp_at_succ in
set_option maxRecDepth 100000 in
set_option maxHeartbeats 6400000 in
theorem rins_run (h : Rf W p N A c l) (i : Nat) (P : Option Addr) (x : List UInt8) (m cx : Nat) (hx : Bts W P x) (hP : P = none → cx = 0) (hm : m = x.length) (hi : i ≤ l.length) (hl : l.length ≤ 4096) (hm2 : m ≤ 4096) (hN : l.length + m ≤ N) :
    Calls Try.prog 14 #[.pointer (some ⟨p, 0, none⟩), .int .i64 (i : Int), .slice P m cx] W (Refd p N A (0, l.take i ++ x ++ l.drop i) W) := by
  have c0 := h.c0
  have c1 := h.c1
  have hbl := h.lt
  have hfz := h.f0
  have hcap := h.cap
  obtain ⟨n, hn⟩ : ∃ n, n = l.length := ⟨_, rfl⟩
  rw [← hn] at c0 hi hl hcap hN
  have H : Aside (Rf W p N A c l ∧ n = l.length) := ⟨h, hn⟩
  have s1 := cut_h A n c i (by omega)
  have s2 := cut_l A n c i (by omega)
  have HC : Aside (cutp A i c = none → c - i = 0) := cutp_nil h.nil
  have HN : Aside (A = none → c = 0) := h.nil
  have HP : Aside (P = none → cx = 0) := hP
  have HT : Aside (∀ w', Stp [] W [] w' → Bts w' A (l.take i) ∧ Bts w' (cutp A i c) (l.drop i) ∧ Bts w' P x) := fun w' hs => by
    refine ⟨Bts.head (M' := l.drop i) (by rw [List.take_append_drop]; exact h.bts.stays hs), ?_, hx.stays hs⟩
    have := (h.bts.stays hs).cut (i := i) (j := l.length) (N := c) (by omega) (Nat.le_refl _) (by omega)
    rw [List.take_of_length_le (by simp)] at this
    exact this
  have HL : Aside (i = (l.take i).length ∧ n - i = (l.drop i).length ∧ m = x.length ∧ (l.take i).length + x.length + (l.drop i).length ≤ 9000) := ⟨by simp; omega, by simp; omega, hm, by simp; omega⟩
  obtain ⟨Aj, eAj⟩ : ∃ a, a = cutp A i c := ⟨_, rfl⟩
  obtain ⟨nj, enj⟩ : ∃ k, k = n - i := ⟨_, rfl⟩
  obtain ⟨cj, ecj⟩ : ∃ k, k = c - i := ⟨_, rfl⟩
  rw [← eAj, ← ecj] at HC
  rw [← eAj, ← enj, ← ecj] at s2
  rw [← eAj] at HT
  rw [← enj] at HL
  obtain ⟨X, eX⟩ : ∃ X, X = l.take i := ⟨_, rfl⟩
  obtain ⟨Y, eY⟩ : ∃ Y, Y = l.drop i := ⟨_, rfl⟩
  rw [← eX, ← eY] at HT HL
  rw [← eX, ← eY]
  clear h hn eAj enj ecj eX eY hx hP hm
  have i1 : ¬ (i : Int) < 0 := by omega
  have i2 : ¬ (n : Int) < (i : Int) := by omega
  have i3 : IntKind.i64.wrap ((n : Int) + (m : Int)) = (n : Int) + (m : Int) := by rw [IntKind.wrap_i64]; omega
  have i4 : ¬ (N : Int) < (n : Int) + (m : Int) := by omega
  go_enter Try.func14, Try.ntmps14
  go_wp2_with fail
  go_quiet (fail)
  go_wp2_with fail
  have H0 : Aside (Stp [] W [] (W.drewN nq)) := Stp.drewN [] W nq
  have H1 : Aside (Rf (W.drewN nq) p N A c l ∧ n = l.length) := ⟨H.out.1.stays H0.out, H.out.2⟩
  have HT1 : Aside (∀ w', Stp [] (W.drewN nq) [] w' → Bts w' A X ∧ Bts w' Aj Y ∧ Bts w' P x) := fun w' hs => HT.out w' (H0.out.trans hs)
  have HF : Aside (∀ w', Stp [p] (W.drewN nq) [p] w' → Stp [p] W [p] w') := fun w' hs => (H0.out.more (fun k h => by cases h)).trans hs
  have HZ : Aside ((W.drewN nq).heap.size = W.heap.size) := rfl
  have c0 : (W.drewN nq).cell? ⟨p, 0, none⟩ = some (.slice A n c) := c0
  have hbl : p < (W.drewN nq).heap.size := hbl
  have hfz : (W.drewN nq).frozen? ⟨p, 0, none⟩ = false := hfz
  clear H0 H HT c1
  generalize W.drewN nq = V at *
  have HS0 : Aside (Stp [] V [] (V.alloc (.cells #[] 5)).drew) := (Stp.alloc [] V _).trans (Stp.drew [] _)
  have HO0 : Aside (Own (V.alloc (.cells #[] 5)).drew V.heap.size (.slice (some ⟨V.heap.size, 0, none⟩) 0 0) []) := Own.new V
  go_region_law
    (first
      | (refine step_app (by rfl) (.tmp 32) (.tmp 38) (by rfl) V.heap.size (.slice (some ⟨V.heap.size, 0, none⟩) 0 0) [] (by rfl) HO0.out A c i X HL.out.1 (by rfl) (HT1.out _ HS0.out).1 HN.out (by have := HL.out; simp; omega) (by simp) ?_
         intro v1 w1 ho1 hg1
         rw [List.nil_append] at ho1
         have HS1 : Aside (Stp [] V [] w1 ∧ Own w1 V.heap.size v1 X) := ⟨HS0.out.app hg1 (fun k hk => by cases hk; exact Nat.le_refl _), ho1⟩
         have c1 : w1.cell? ⟨p, 0, none⟩ = some (.slice A n c) := (HS1.out.1.cell (a := ⟨p, 0, none⟩) hbl (fun h => by cases h)).trans c0
         clear ho1 hg1)
      | (refine step_app (by rfl) (.tmp 39) (.tmp 40) (by rfl) V.heap.size v1 X (by rfl) HS1.out.2 P cx m x HL.out.2.2.1 (by rfl) (HT1.out _ HS1.out.1).2.2 HP.out (by have := HL.out; omega) (HS1.out.1.size) ?_
         intro v2 w2 ho2 hg2
         have HS2 : Aside (Stp [] V [] w2 ∧ Own w2 V.heap.size v2 (X ++ x)) := ⟨HS1.out.1.app hg2 (fun k hk => (HS1.out.2.lt k hk).1), ho2⟩
         have c2 : w2.cell? ⟨p, 0, none⟩ = some (.slice A n c) := (HS2.out.1.cell (a := ⟨p, 0, none⟩) hbl (fun h => by cases h)).trans c0
         clear ho2 hg2)
      | (refine step_app (by rfl) (.tmp 41) (.tmp 47) (by rfl) V.heap.size v2 (X ++ x) (by rfl) HS2.out.2 Aj cj nj Y HL.out.2.1 (by rfl) (HT1.out _ HS2.out.1).2.1 HC.out (by have := HL.out; rw [List.length_append]; omega) (HS2.out.1.size) ?_
         intro v3 w3 ho3 hg3
         obtain ⟨A3, c3, rfl, hb3, hn3, hc3, hbb3⟩ := ho3.bts
         have HS3 : Aside (Stp [] V [] w3 ∧ Bts w3 A3 (X ++ x ++ Y) ∧ (A3 = none → c3 = 0) ∧ (X ++ x ++ Y).length ≤ c3 ∧ ∀ ad, A3 = some ad → V.heap.size ≤ ad.block ∧ ad.block < w3.heap.size) := ⟨HS2.out.1.app hg3 (fun k hk => (HS2.out.2.lt k hk).1), hb3, hn3, hc3, hbb3⟩
         have c3' : w3.cell? ⟨p, 0, none⟩ = some (.slice A n c) := (HS3.out.1.cell (a := ⟨p, 0, none⟩) hbl (fun h => by cases h)).trans c0
         have f3' : w3.frozen? ⟨p, 0, none⟩ = false := (World.frozen?_of_block (a := ⟨p, 0, none⟩) (HS3.out.1.block p hbl (fun h => by cases h))).trans hfz
         obtain ⟨nn, enn⟩ : ∃ nn, nn = (X ++ x ++ Y).length := ⟨_, rfl⟩
         have HE : Aside (nn = (X ++ x ++ Y).length) := enn
         rw [← enn]
         clear ho3 hg3 hb3 hn3 hc3 hbb3 enn))
  all_goals
    go_wp2
    go_ret
    obtain ⟨q1, q2⟩ := H1.out.1.lay HS3.out.1 HS3.out.2.1 HS3.out.2.2.1 HS3.out.2.2.2.1 HS3.out.2.2.2.2
    rw [← HE.out] at q1 q2
    exact ⟨rfl, _, _, q1, fun ad e => .inr (by have := (HS3.out.2.2.2.2 ad e).1; rw [HZ.out] at this; exact this), HF.out _ q2⟩
end
end Go.Proofs.Ytkkfpbnlhgnchaa
