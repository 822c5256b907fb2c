/-
  What the fields take from words: the four closures 'take'.
-/
import Derived.Test.YthfiilhbgogoaaaGreatDoorNum
import Derived.Test.YthfiilhbgogoaaaGreatDoorByt
namespace Go.Proofs.YthfiilhbgogoaaaGreatDoor
open Go.RowKit Go.Lib
set_option linter.unusedVariables false

/-- An effect without its kind. -/
structure Ef where
  f : Nat
  m : Nat
  t : Nat
  d : List UInt8
  n : Nat
  ok : Bool
def tk : FK → Ef → List UInt8 → Option Ef
  | .ok, x, s => if s = [111, 107] then some { x with ok := true } else if s = [102, 97, 105, 108] then some { x with ok := false } else none
  | .attrs, x, s => if text (rdf s) (rdm s) (rdt s) = s then some { x with f := rdf s, m := rdm s, t := rdt s } else none
  | .data, x, s => (unhex s).map fun d => { x with d := d }
  | .num, x, s => (num s).map fun n => { x with n := n }
/-- An effect's block. -/
def EAt (W : World) (g : Nat) (k : Int) (f m t : Nat) (d : Value) (n : Int) (ok : Bool) : Prop := W.heap[g]? = some (.cells #[.int .i64 k, .int .u32 (f : Int), .int .u8 (m : Int), .int .u8 (t : Int), d, .int .i64 n, .bool ok] 43 (0, 0))
section
variable {W W' : World} {g : Nat} {k : Int} {f m t : Nat} {d : Value} {n : Int} {ok : Bool}
theorem EAt.lt (h : EAt W g k f m t d n ok) : g < W.heap.size := (Array.getElem?_eq_some_iff.1 h).1
theorem EAt.other {F F' : List Nat} (h : EAt W g k f m t d n ok) (hs : Stp F W F' W') (hF : g ∉ F) : EAt W' g k f m t d n ok := (hs.block g h.lt hF).trans h
theorem EAt.c0 (h : EAt W g k f m t d n ok) : W.cell? ⟨g, 0, none⟩ = some (.int .i64 k) := by rw [cell_of_row W g 0 _ _ _ h]; rfl
theorem EAt.c1 (h : EAt W g k f m t d n ok) : W.cell? ⟨g, 1, none⟩ = some (.int .u32 (f : Int)) := by rw [cell_of_row W g 1 _ _ _ h]; rfl
theorem EAt.c2 (h : EAt W g k f m t d n ok) : W.cell? ⟨g, 2, none⟩ = some (.int .u8 (m : Int)) := by rw [cell_of_row W g 2 _ _ _ h]; rfl
theorem EAt.c3 (h : EAt W g k f m t d n ok) : W.cell? ⟨g, 3, none⟩ = some (.int .u8 (t : Int)) := by rw [cell_of_row W g 3 _ _ _ h]; rfl
theorem EAt.c4 (h : EAt W g k f m t d n ok) : W.cell? ⟨g, 4, none⟩ = some d := by rw [cell_of_row W g 4 _ _ _ h]; rfl
theorem EAt.c5 (h : EAt W g k f m t d n ok) : W.cell? ⟨g, 5, none⟩ = some (.int .i64 n) := by rw [cell_of_row W g 5 _ _ _ h]; rfl
theorem EAt.c6 (h : EAt W g k f m t d n ok) : W.cell? ⟨g, 6, none⟩ = some (.bool ok) := by rw [cell_of_row W g 6 _ _ _ h]; rfl
theorem EAt.fz (h : EAt W g k f m t d n ok) (i : Nat) : W.frozen? ⟨g, i, none⟩ = false := frozen_of_row W g i _ _ h
theorem EAt.setK (h : EAt W g k f m t d n ok) (k' : Int) : EAt (W.setCell ⟨g, 0, none⟩ (.int .i64 k')) g k' f m t d n ok := heap_setCell_same W g 0 _ _ _ h
theorem EAt.setA (h : EAt W g k f m t d n ok) (f' m' t' : Nat) : EAt (((W.setCell ⟨g, 1, none⟩ (.int .u32 (f' : Int))).setCell ⟨g, 2, none⟩ (.int .u8 (m' : Int))).setCell ⟨g, 3, none⟩ (.int .u8 (t' : Int))) g k f' m' t' d n ok := by
  have h1 := heap_setCell_same W g 1 _ _ (.int .u32 (f' : Int)) h
  have h2 := heap_setCell_same _ g 2 _ _ (.int .u8 (m' : Int)) h1
  exact heap_setCell_same _ g 3 _ _ (.int .u8 (t' : Int)) h2
theorem EAt.setD (h : EAt W g k f m t d n ok) (d' : Value) : EAt (W.setCell ⟨g, 4, none⟩ d') g k f m t d' n ok := heap_setCell_same W g 4 _ _ _ h
theorem EAt.setN (h : EAt W g k f m t d n ok) (n' : Int) : EAt (W.setCell ⟨g, 5, none⟩ (.int .i64 n')) g k f m t d n' ok := heap_setCell_same W g 5 _ _ _ h
theorem EAt.setO (h : EAt W g k f m t d n ok) (ok' : Bool) : EAt (W.setCell ⟨g, 6, none⟩ (.bool ok')) g k f m t d n ok' := heap_setCell_same W g 6 _ _ _ h
end
/-- Bytes that stand apart from a block. -/
def Dat (w : World) (g : Nat) (d : Value) (l : List UInt8) : Prop := ∃ a cap, d = .slice a l.length cap ∧ Bts w a l ∧ l.length ≤ cap ∧ (a = none → cap = 0) ∧ ∀ ad, a = some ad → g < ad.block
theorem Dat.own {w w' : World} {g : Nat} {d : Value} {l : List UInt8} (h : Dat w g d l) (hs : Stp [g] w [g] w') : Dat w' g d l := by
  obtain ⟨a, cap, e, h1, h2, h3, h4⟩ := h
  exact ⟨a, cap, e, h1.other hs (fun _ ad e => by have := h4 ad e; simp; omega), h2, h3, h4⟩
theorem Dat.stays {w w' : World} {g : Nat} {d : Value} {l : List UInt8} {F : List Nat} (h : Dat w g d l) (hs : Stp [] w F w') : Dat w' g d l := by
  obtain ⟨a, cap, e, h1, h2, h3, h4⟩ := h
  exact ⟨a, cap, e, h1.stays hs, h2, h3, h4⟩
def EfAt (w : World) (g : Nat) (x : Ef) : Prop := ∃ d, EAt w g 0 x.f x.m x.t d (x.n : Int) x.ok ∧ Dat w g d x.d
/-- What a field took. -/
def Took (o : Option Ef) (g : Nat) (W : World) (e : Ending) (w' : World) : Prop :=
  Stp [g] W [g] w' ∧ match o with
    | none => e = .returned (.bool false)
    | some x => e = .returned (.bool true) ∧ EfAt w' g x
theorem stp_one (W : World) (g i : Nat) (v : Value) : Stp [g] W [g] (W.setCell ⟨g, i, none⟩ v) := Stp.setCell (F := [g]) (a := ⟨g, i, none⟩) W v (by simp)
set_option maxHeartbeats 1000000 in
set_option maxRecDepth 100000 in
theorem okt_run (x : Ef) (s : List UInt8) (W : World) (g : Nat) (hx : EfAt W g x) : Calls Tryz.prog 46 #[.pointer (some ⟨g, 0, none⟩), .string (st s)] W (Took (tk .ok x s) g W) := by
  obtain ⟨d, h, hd⟩ := hx
  have c6 := h.c6
  have z6 := h.fz 6
  have HH : Aside (∀ b : Bool, EfAt (W.setCell ⟨g, 6, none⟩ (.bool b)) g { x with ok := b }) := fun b => ⟨d, h.setO b, hd.own (stp_one _ _ _ _)⟩
  clear h hd
  by_cases h1 : s = [111, 107]
  · subst h1
    have hst : st [111, 107] = ⟨#[111, 107]⟩ := rfl
    rw [hst]
    go_enter Tryz.func46, Tryz.ntmps46
    go_wp2
    go_ret
    exact ⟨stp_one _ _ _ _, rfl, HH.out true⟩
  by_cases h2 : s = [102, 97, 105, 108]
  · subst h2
    have hst : st [102, 97, 105, 108] = ⟨#[102, 97, 105, 108]⟩ := rfl
    rw [hst]
    go_enter Tryz.func46, Tryz.ntmps46
    go_wp2
    go_ret
    exact ⟨stp_one _ _ _ _, rfl, HH.out false⟩
  have q1 : ((st s).toList == [111, 107]) = false := by rw [st_toList]; exact beq_eq_false_iff_ne.2 h1
  have q2 : ((st s).toList == [102, 97, 105, 108]) = false := by rw [st_toList]; exact beq_eq_false_iff_ne.2 h2
  have HV : Aside (tk .ok x s = none) := by
    show tk .ok x s = none
    simp only [tk]
    rw [if_neg h1, if_neg h2]
  go_enter Tryz.func46, Tryz.ntmps46
  go_wp2
  go_ret
  exact ⟨stp_one _ _ _ _, by rw [HV.out]; rfl⟩
theorem EfAt.stays {w w' : World} {g : Nat} {x : Ef} {F : List Nat} (h : EfAt w g x) (hs : Stp [] w F w') : EfAt w' g x := by
  obtain ⟨d, h1, h2⟩ := h
  exact ⟨d, h1.other hs (by simp), h2.stays hs⟩
theorem stp_then {W w1 w2 : World} {g : Nat} (h : Stp [] W [] w1) (k : Stp [g] w1 [g] w2) : Stp [g] W [g] w2 := (h.more (G := [g]) (by simp)).trans k
set_option maxHeartbeats 1000000 in
set_option maxRecDepth 100000 in
theorem nut_run (x : Ef) (s : List UInt8) (hs : s.length ≤ 100000) (W : World) (hT : Tabs W) (g : Nat) (hx : EfAt W g x) : Calls Tryz.prog 57 #[.pointer (some ⟨g, 0, none⟩), .string (st s)] W (Took (tk .num x s) g W) := by
  have K := Lib.hid (num_run s hs W hT)
  have HX : Aside (EfAt W g x) := hx
  have HV : Aside (tk .num x s = (num s).map fun n => { x with n := n }) := rfl
  clear hT hx
  go_enter Tryz.func57, Tryz.ntmps57
  go_wp2_with fail
  refine K.out.mono ?_
  rintro _ w1 ⟨rfl, h1⟩
  obtain ⟨d, h, hd⟩ := HX.out.stays h1
  have c5 := h.c5
  have z5 := h.fz 5
  have HS : Aside (Stp [] W [] w1) := h1
  have HH : Aside (∀ n : Nat, EfAt (w1.setCell ⟨g, 5, none⟩ (.int .i64 (n : Int))) g { x with n := n }) := fun n => ⟨d, h.setN n, hd.own (stp_one _ _ _ _)⟩
  clear h hd h1 K HX
  cases e : num s with
  | none =>
    have HV2 : Aside (tk .num x s = none) := by
      show tk .num x s = none
      rw [HV.out, e]
      rfl
    clear e HV
    unfold numv
    go_wp2
    go_ret
    exact ⟨stp_then HS.out (stp_one _ _ _ _), by rw [HV2.out]; rfl⟩
  | some n =>
    have HV2 : Aside (tk .num x s = some { x with n := n }) := by
      show tk .num x s = _
      rw [HV.out, e]
      rfl
    clear e HV
    unfold numv
    go_wp2
    go_ret
    refine ⟨stp_then HS.out (stp_one _ _ _ _), ?_⟩
    rw [HV2.out]
    exact ⟨rfl, HH.out n⟩
set_option maxHeartbeats 1000000 in
set_option maxRecDepth 100000 in
theorem dat_run (x : Ef) (s : List UInt8) (hs : s.length ≤ 100000) (W : World) (g : Nat) (hx : EfAt W g x) : Calls Tryz.prog 53 #[.pointer (some ⟨g, 0, none⟩), .string (st s)] W (Took (tk .data x s) g W) := by
  have K := Lib.hid (byt_run s hs W)
  have HX : Aside (EfAt W g x) := hx
  have HV : Aside (tk .data x s = (unhex s).map fun d => { x with d := d }) := rfl
  clear hx
  go_enter Tryz.func53, Tryz.ntmps53
  go_wp2_with fail
  refine K.out.mono ?_
  rintro e0 w1 ⟨h1, h2⟩
  obtain ⟨d, h, hd⟩ := HX.out.stays h1
  have c4 := h.c4
  have z4 := h.fz 4
  have HS : Aside (Stp [] W [] w1) := h1
  have hgl : g < W.heap.size := by
    obtain ⟨_, q, _⟩ := HX.out
    exact q.lt
  cases e : unhex s with
  | none =>
    have HV2 : Aside (tk .data x s = none) := by
      show tk .data x s = none
      rw [HV.out, e]
      rfl
    rw [e] at h2
    subst h2
    clear e HV h hd h1 K HX
    go_wp2
    go_ret
    exact ⟨stp_then HS.out (stp_one _ _ _ _), by rw [HV2.out]; rfl⟩
  | some l =>
    have HV2 : Aside (tk .data x s = some { x with d := l }) := by
      show tk .data x s = _
      rw [HV.out, e]
      rfl
    rw [e] at h2
    obtain ⟨a, cap, rfl, hb, hc, hn, ha⟩ := h2
    have HH : Aside (EfAt (w1.setCell ⟨g, 4, none⟩ (.slice a l.length cap)) g { x with d := l }) := by
      have hne : ∀ ad, a = some ad → g < ad.block := fun ad h => by have := ha ad h; omega
      exact ⟨_, h.setD _, a, cap, rfl, hb.other (stp_one _ _ _ _) (fun _ ad e => by have := hne ad e; simp; omega), hc, hn, hne⟩
    clear e HV h hd h1 K HX hb hc hn ha
    go_wp2
    go_ret
    refine ⟨stp_then HS.out (stp_one _ _ _ _), ?_⟩
    rw [HV2.out]
    exact ⟨rfl, HH.out⟩
set_option maxHeartbeats 1000000 in
set_option maxRecDepth 100000 in
theorem att_run (x : Ef) (s : List UInt8) (hs : s.length ≤ 100000) (W : World) (hT : Tabs W) (g : Nat) (hx : EfAt W g x) : Calls Tryz.prog 49 #[.pointer (some ⟨g, 0, none⟩), .string (st s)] W (Took (tk .attrs x s) g W) := by
  have K := Lib.hid (read_run s (by omega) W hT)
  have HX : Aside (EfAt W g x) := hx
  have HV : Aside (tk .attrs x s = if text (rdf s) (rdm s) (rdt s) = s then some { x with f := rdf s, m := rdm s, t := rdt s } else none) := rfl
  clear hT hx
  go_enter Tryz.func49, Tryz.ntmps49
  go_wp2_with fail
  refine K.out.mono ?_
  rintro _ w1 ⟨rfl, h1⟩
  obtain ⟨d, h, hd⟩ := HX.out.stays h1
  have c1 := h.c1
  have c2 := h.c2
  have c3 := h.c3
  have z1 := h.fz 1
  have z2 := h.fz 2
  have z3 := h.fz 3
  have HS : Aside (Stp [] W [] w1) := h1
  have HS3 : Aside (∀ a b c : Value, Stp [g] W [g] (((w1.setCell ⟨g, 1, none⟩ a).setCell ⟨g, 2, none⟩ b).setCell ⟨g, 3, none⟩ c)) := fun a b c => stp_then h1 (((stp_one _ _ _ _).trans (stp_one _ _ _ _)).trans (stp_one _ _ _ _))
  have HH : Aside (∀ f m t : Nat, EfAt (((w1.setCell ⟨g, 1, none⟩ (.int .u32 (f : Int))).setCell ⟨g, 2, none⟩ (.int .u8 (m : Int))).setCell ⟨g, 3, none⟩ (.int .u8 (t : Int))) g { x with f := f, m := m, t := t }) := fun f m t => ⟨d, h.setA f m t, hd.own (((stp_one _ _ _ _).trans (stp_one _ _ _ _)).trans (stp_one _ _ _ _))⟩
  clear h hd h1 K HX
  unfold rv
  by_cases e : text (rdf s) (rdm s) (rdt s) = s
  · have HV2 : Aside (tk .attrs x s = some { x with f := rdf s, m := rdm s, t := rdt s }) := HV.out.trans (if_pos e)
    rw [if_pos e]
    clear e HV
    unfold av
    go_wp2
    go_ret
    refine ⟨HS3.out _ _ _, ?_⟩
    rw [HV2.out]
    exact ⟨rfl, HH.out _ _ _⟩
  · have HV2 : Aside (tk .attrs x s = none) := HV.out.trans (if_neg e)
    rw [if_neg e]
    clear e HV
    unfold av
    go_wp2
    go_ret
    exact ⟨HS3.out _ _ _, by rw [HV2.out]; rfl⟩
/-- The closure that takes a field. -/
def takeId : FK → FuncId
  | .ok => 46
  | .attrs => 49
  | .data => 53
  | .num => 57
theorem takeF_id (k : FK) : takeF k = .func (.func (takeId k)) #[] #[] := by cases k <;> rfl
theorem take_run (k : FK) (x : Ef) (s : List UInt8) (hs : s.length ≤ 100000) (W : World) (hT : Tabs W) (g : Nat) (hx : EfAt W g x) : Calls Tryz.prog (takeId k) #[.pointer (some ⟨g, 0, none⟩), .string (st s)] W (Took (tk k x s) g W) := by
  cases k
  · exact okt_run x s W g hx
  · exact att_run x s hs W hT g hx
  · exact dat_run x s hs W g hx
  · exact nut_run x s hs W hT g hx
end Go.Proofs.YthfiilhbgogoaaaGreatDoor
