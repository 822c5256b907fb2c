/-
  The document's sink in memory: Deliver.
-/
import Derived.Test.YtcailmgincafcaaDoorDv
import Derived.Deep.RegionLaw
import Derived.Deep.DrawnRows
namespace Go.Proofs.YtcailmgincafcaaDoor
open Go.RowKit Go.Lib
set_option linter.unusedVariables false

/-- The document's sink: the bytes, how many were delivered, whether they were. -/
structure Rk (W : World) (m : Nat) (A : Option Addr) (c x : Nat) (gv : Bool) (T : List UInt8) : Prop where
  obj : W.heap[m]? = some (.cells #[.slice A T.length c, .int .i64 (x : Int), .bool gv] 29 (0, 0))
  bts : Bts W A T
  nil : A = none → c = 0
  cap : T.length ≤ c
  apart : ∀ ad, A = some ad → ad.block ≠ m ∧ ad.block < W.heap.size
section
variable {W W' : World} {m c x : Nat} {A : Option Addr} {gv : Bool} {T : List UInt8}
theorem Rk.lt (h : Rk W m A c x gv T) : m < W.heap.size := (Array.getElem?_eq_some_iff.1 h.obj).1
theorem Rk.c0 (h : Rk W m A c x gv T) : W.cell? ⟨m, 0, none⟩ = some (.slice A T.length c) := by rw [cell_of_row W m 0 _ _ _ h.obj]; rfl
theorem Rk.c1 (h : Rk W m A c x gv T) : W.cell? ⟨m, 1, none⟩ = some (.int .i64 (x : Int)) := by rw [cell_of_row W m 1 _ _ _ h.obj]; rfl
theorem Rk.c2 (h : Rk W m A c x gv T) : W.cell? ⟨m, 2, none⟩ = some (.bool gv) := by rw [cell_of_row W m 2 _ _ _ h.obj]; rfl
theorem Rk.fz (h : Rk W m A c x gv T) (i : Nat) : W.frozen? ⟨m, i, none⟩ = false := frozen_of_row W m i _ _ h.obj
theorem Rk.other {F F' : List Nat} (h : Rk W m A c x gv T) (hs : Stp F W F' W') (hp : m ∉ F) (hA : ∀ ad, A = some ad → ad.block ∉ F) : Rk W' m A c x gv T :=
  ⟨(hs.block m h.lt hp).trans h.obj, h.bts.other hs (fun _ => hA), h.nil, h.cap, fun ad e => ⟨(h.apart ad e).1, Nat.lt_of_lt_of_le (h.apart ad e).2 hs.size⟩⟩
theorem Rk.stays {F' : List Nat} (h : Rk W m A c x gv T) (hs : Stp [] W F' W') : Rk W' m A c x gv T := h.other hs (fun h => by cases h) (fun _ _ h => by cases h)
/-- New bytes stored, and the two other fields. -/
theorem Rk.lay {A' : Option Addr} {c' x' : Nat} {gv' : Bool} {T' : List UInt8} (h : Rk W m A c x gv T) (hs : Stp [] W [] W') (hb : Bts W' A' T') (hn : A' = none → c' = 0) (hc : T'.length ≤ c') (hA : ∀ ad, A' = some ad → W.heap.size ≤ ad.block ∧ ad.block < W'.heap.size) :
    Rk (((W'.setCell ⟨m, 0, none⟩ (.slice A' T'.length c')).setCell ⟨m, 1, none⟩ (.int .i64 (x' : Int))).setCell ⟨m, 2, none⟩ (.bool gv')) m A' c' x' gv' T' ∧
      Stp [m] W [m] (((W'.setCell ⟨m, 0, none⟩ (.slice A' T'.length c')).setCell ⟨m, 1, none⟩ (.int .i64 (x' : Int))).setCell ⟨m, 2, none⟩ (.bool gv')) := by
  have ho := (hs.block m h.lt (fun h => by cases h)).trans h.obj
  have hp := h.lt
  have s3 : Stp [m] W' [m] (((W'.setCell ⟨m, 0, none⟩ (.slice A' T'.length c')).setCell ⟨m, 1, none⟩ (.int .i64 (x' : Int))).setCell ⟨m, 2, none⟩ (.bool gv')) :=
    ((Stp.setCell (F := [m]) (a := ⟨m, 0, none⟩) _ _ (by simp)).trans (Stp.setCell (F := [m]) (a := ⟨m, 1, none⟩) _ _ (by simp))).trans (Stp.setCell (F := [m]) (a := ⟨m, 2, none⟩) _ _ (by simp))
  refine ⟨⟨heap_setCell_same _ m 2 _ _ _ (heap_setCell_same _ m 1 _ _ _ (heap_setCell_same W' m 0 _ _ _ ho)), ?_, hn, hc, fun ad e => ⟨?_, ?_⟩⟩, (hs.more (fun k h => by cases h)).trans s3⟩
  · exact hb.other s3 (fun _ ad e => by have := (hA ad e).1; simp; omega)
  · have := (hA ad e).1
    omega
  · exact Nat.lt_of_lt_of_le (hA ad e).2 s3.size
end
/-- An append at a step of a region that draws its order. -/
theorem step_app {w : World} {ops : Array Oper} {o : Oper} {a : Act} {K : Act → World → Prop} {Q : Exit → Act → World → Prop} {E : Prop} (hgd : o.guard = none) (s x : Operand)
    (ho : o.op = .call { callee := .builtin .append, args := #[s, x], argTypes := #[22, 22] }) (base : Nat) (v : Value) (xs : List UInt8) (hs : a.eval s = v) (hown : Own w base v xs)
    (A : Option Addr) (c n : Nat) (l : List UInt8) (hn : n = l.length) (hx : a.eval x = .slice A n c) (hl : Bts w A l) (hA : A = none → c = 0) (h63 : xs.length + l.length ≤ 1000000) (hbase : base ≤ w.heap.size)
    (h : ∀ v' w', Own w' base v' (xs ++ l) → w.grownBy w' v.ownBlock → K (a.put o.dst v') w') :
    if Region.wanted o (yielded ops a.tmps) = true then Oper.wp Tryd.prog o a w K Q else E := by
  have hw : Region.wanted o (yielded ops a.tmps) = true := by simp [Region.wanted, hgd]
  rw [if_pos hw]
  subst hn
  obtain ⟨v', w', hrun, h2, h3, h4⟩ := run_app o.type hown hl hA h63 hbase
  unfold Oper.wp execOp
  simp only [ho, resolve, invoke, builtin, Sem.run_bind, Sem.run_pure, Result.andThen_ok, List.map_toArray, List.map_cons, List.map_nil, hs, hx, hrun]
  exact h v' w' h2 h3
theorem cutp_nil {A : Option Addr} {c i : Nat} (hn : A = none → c = 0) : cutp A i c = none → c - i = 0 := fun h => by
  unfold cutp at h
  split at h
  · omega
  · rcases A with _ | x
    · rw [hn rfl]
      omega
    · cases h


section
variable {W : World} {m c x : Nat} {A : Option Addr} {gv : Bool} {T : List UInt8}
/-- What the document's call leaves. -/
def Rdv (m : Nat) (A : Option Addr) (r : Rd) (W : World) (e : Ending) (w' : World) : Prop :=
  e = .returned (.tuple #[.int .i64 (r.k : Int), .int .i64 (r.e : Int)]) ∧ ∃ A' c', Rk w' m A' c' r.x r.gv r.T ∧ (∀ ad, A' = some ad → A = some ad ∨ W.heap.size ≤ ad.block) ∧ Stp [m] W [m] w'
theorem rdv_given (h : Rk W m A c x true T) (v : Value) : Calls Tryd.prog 13 #[.pointer (some ⟨m, 0, none⟩), v] W (Gives (.tuple #[.int .i64 0, .int .i64 11]) W) := by
  have c2 := h.c2
  clear h
  go_enter Tryd.func13, Tryd.ntmps13
  go_wp2
  go_ret2
  exact ⟨rfl, rfl⟩
theorem rdv_small (h : Rk W m A c x false T) (P : Option Addr) (n cx : Nat) (hlt : T.length < n) : Calls Tryd.prog 13 #[.pointer (some ⟨m, 0, none⟩), .slice P n cx] W (Gives (.tuple #[.int .i64 0, .int .i64 12]) W) := by
  have c0 := h.c0
  have c2 := h.c2
  clear h
  generalize T.length = N at *
  have hz : (N : Int) < (n : Int) := by omega
  clear hlt
  go_enter Tryd.func13, Tryd.ntmps13
  go_wp2
  go_ret2
  exact ⟨rfl, rfl⟩
attribute [local go_sem ↓] Go.wp_at_zero Go.wp_at_succ in
set_option maxRecDepth 100000 in
set_option maxHeartbeats 3200000 in
theorem rdv_ok (h : Rk W m A c x false T) (P : Option Addr) (X : List UInt8) (n cx : Nat) (hx : Bts W P X) (hP : P = none → cx = 0) (hn : n = X.length) (hle : n ≤ T.length) (hT : T.length ≤ 100000) :
    Calls Tryd.prog 13 #[.pointer (some ⟨m, 0, none⟩), .slice P n cx] W (Rdv m A ⟨n, 0, n, true, lay T 0 X⟩ W) := by
  have c0 := h.c0
  have c2 := h.c2
  have hbl := h.lt
  have hcap := h.cap
  obtain ⟨N, hN⟩ : ∃ N, N = T.length := ⟨_, rfl⟩
  rw [← hN] at c0 hle hcap hT
  have H : Aside (Rk W m A c x false T ∧ N = T.length) := ⟨h, hN⟩
  have s2 := cut_l A N c n hle
  have HC : Aside (cutp A n c = none → c - n = 0) := cutp_nil h.nil
  have HP : Aside (P = none → cx = 0) := hP
  have HT : Aside (∀ w', Stp [] W [] w' → Bts w' P X ∧ Bts w' (cutp A n c) (T.drop n)) := fun w' hs => ⟨hx.stays hs, bts_drop (h.bts.stays hs) n c (by omega) (by omega)⟩
  have HL : Aside (n = X.length ∧ N - n = (T.drop n).length ∧ X.length + (T.drop n).length ≤ 200000 ∧ X ++ T.drop n = lay T 0 X) := ⟨hn, by simp; omega, by simp; omega, by rw [lay_all, hn]⟩
  obtain ⟨Aj, eAj⟩ : ∃ a, a = cutp A n c := ⟨_, rfl⟩
  obtain ⟨nj, enj⟩ : ∃ k, k = N - n := ⟨_, rfl⟩
  obtain ⟨cj, ecj⟩ : ∃ k, k = c - n := ⟨_, rfl⟩
  rw [← eAj, ← ecj] at HC
  rw [← eAj, ← enj, ← ecj] at s2
  rw [← eAj] at HT
  rw [← enj] at HL
  obtain ⟨Y, eY⟩ : ∃ Y, Y = T.drop n := ⟨_, rfl⟩
  rw [← eY] at HT HL
  obtain ⟨L, eL⟩ : ∃ L, L = lay T 0 X := ⟨_, rfl⟩
  rw [← eL] at HL ⊢
  have i3 : ¬ (N : Int) < (n : Int) := by omega
  clear h hN eAj enj ecj eY hx hP hn hle hT hcap eL
  have HS0 : Aside (Stp [] W [] (W.alloc (.cells #[] 5)).drew) := (Stp.alloc [] W _).trans (Stp.drew [] _)
  have HO0 : Aside (Own (W.alloc (.cells #[] 5)).drew W.heap.size (.slice (some ⟨W.heap.size, 0, none⟩) 0 0) []) := Own.new W
  go_enter Tryd.func13, Tryd.ntmps13
  go_wp2_with fail
  go_region_law
    (first
      | (refine step_app (by rfl) (.tmp 19) (.tmp 20) (by rfl) W.heap.size (.slice (some ⟨W.heap.size, 0, none⟩) 0 0) [] (by rfl) HO0.out P cx n X HL.out.1 (by rfl) (HT.out _ HS0.out).1 HP.out (by have := HL.out; simp; omega) (by simp) ?_
         intro v1 w1 ho1 hg1
         rw [List.nil_append] at ho1
         have HS1 : Aside (Stp [] W [] w1 ∧ Own w1 W.heap.size v1 X) := ⟨HS0.out.app hg1 (fun k hk => by cases hk; exact Nat.le_refl _), ho1⟩
         have c1 : w1.cell? ⟨m, 0, none⟩ = some (.slice A N c) := (HS1.out.1.cell (a := ⟨m, 0, none⟩) hbl (fun h => by cases h)).trans c0
         clear ho1 hg1)
      | (refine step_app (by rfl) (.tmp 21) (.tmp 28) (by rfl) W.heap.size v1 X (by rfl) HS1.out.2 Aj cj nj Y HL.out.2.1 (by rfl) (HT.out _ HS1.out.1).2 HC.out (by have := HL.out; omega) (HS1.out.1.size) ?_
         intro v2 w2 ho2 hg2
         obtain ⟨A2, c2', rfl, hb2, hn2, hc2, hbb2⟩ := ho2.bts
         rw [HL.out.2.2.2] at hb2 hc2 ⊢
         have HS2 : Aside (Stp [] W [] w2 ∧ Bts w2 A2 L ∧ (A2 = none → c2' = 0) ∧ L.length ≤ c2' ∧ ∀ ad, A2 = some ad → W.heap.size ≤ ad.block ∧ ad.block < w2.heap.size) := ⟨HS1.out.1.app hg2 (fun k hk => (HS1.out.2.lt k hk).1), hb2, hn2, hc2, hbb2⟩
         have ho := (HS2.out.1.block m hbl (fun h => by cases h)).trans H.out.1.obj
         rw [← H.out.2] at ho
         have d0 : w2.cell? ⟨m, 0, none⟩ = some (.slice A N c) := by rw [cell_of_row w2 m 0 _ _ _ ho]; rfl
         have d1 : w2.cell? ⟨m, 1, none⟩ = some (.int .i64 (x : Int)) := by rw [cell_of_row w2 m 1 _ _ _ ho]; rfl
         have d2 : w2.cell? ⟨m, 2, none⟩ = some (.bool false) := by rw [cell_of_row w2 m 2 _ _ _ ho]; rfl
         have f0 : w2.frozen? ⟨m, 0, none⟩ = false := frozen_of_row w2 m 0 _ _ ho
         have f1 : w2.frozen? ⟨m, 1, none⟩ = false := frozen_of_row w2 m 1 _ _ ho
         have f2 : w2.frozen? ⟨m, 2, none⟩ = false := frozen_of_row w2 m 2 _ _ ho
         obtain ⟨nl, enl⟩ : ∃ nl, nl = L.length := ⟨_, rfl⟩
         have HNL := Lib.hid enl
         rw [← enl]
         clear ho ho2 hg2 hb2 hn2 hc2 hbb2 enl))
  all_goals
    go_wp2
    go_ret2
    obtain ⟨q1, q2⟩ := H.out.1.lay (x' := n) (gv' := true) HS2.out.1 HS2.out.2.1 HS2.out.2.2.1 HS2.out.2.2.2.1 HS2.out.2.2.2.2
    rw [← HNL.out] at q1 q2
    exact ⟨rfl, _, _, q1, fun ad e => .inr (HS2.out.2.2.2.2 ad e).1, q2⟩
/-- Any call. -/
theorem rdeliver_run (h : Rk W m A c x gv T) (P : Option Addr) (X : List UInt8) (n cx : Nat) (hx : Bts W P X) (hP : P = none → cx = 0) (hn : n = X.length) (hT : T.length ≤ 100000) :
    Calls Tryd.prog 13 #[.pointer (some ⟨m, 0, none⟩), .slice P n cx] W (Rdv m A (dvS T.length x gv T X) W) := by
  cases gv with
  | true =>
    rw [dvs_given]
    refine (rdv_given h _).mono ?_
    rintro _ _ ⟨rfl, rfl⟩
    exact ⟨rfl, A, c, h, fun ad e => .inl e, Stp.refl _ _⟩
  | false =>
    by_cases hlt : T.length < X.length
    · rw [dvs_small hlt]
      refine (rdv_small h P n cx (by omega)).mono ?_
      rintro _ _ ⟨rfl, rfl⟩
      exact ⟨rfl, A, c, h, fun ad e => .inl e, Stp.refl _ _⟩
    · rw [dvs_ok hlt, ← hn]
      exact rdv_ok h P X n cx hx hP hn (by omega) hT
end
end Go.Proofs.YtcailmgincafcaaDoor
