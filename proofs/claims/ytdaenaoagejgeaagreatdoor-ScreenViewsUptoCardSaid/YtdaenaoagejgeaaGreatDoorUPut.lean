/-
  The library's AppendRune onto a row of the call's own, at every character; utf.Put and utf.Printable at every number.
-/
import Derived.Test.YtdaenaoagejgeaaGreatDoorUMem
namespace Go.Proofs.YtdaenaoagejgeaaGreatDoor.U
open Go.RowKit Go.Lib
set_option linter.unusedVariables false

/-- A character's bytes. -/
def enc (c : Nat) : List Nat :=
  if c < 128 then [c] else if c < 2048 then [192 + c / 64, 128 + c % 64] else if c < 65536 then [224 + c / 4096, 128 + c / 64 % 64, 128 + c % 64]
  else [240 + c / 262144, 128 + c / 4096 % 64, 128 + c / 64 % 64, 128 + c % 64]
/-- Is it a character? -/
def isCh (c : Int) : Bool := decide (0 ≤ c ∧ c ≤ 1114111 ∧ ¬ (55296 ≤ c ∧ c ≤ 57343))

theorem enc_lt (c : Nat) (h : c ≤ 1114111) : ∀ x ∈ enc c, x < 256 := by
  intro x hx
  unfold enc at hx
  repeat' split at hx
  all_goals
    simp at hx
    omega
theorem enc_len (c : Nat) : 1 ≤ (enc c).length ∧ (enc c).length ≤ 4 := by
  unfold enc
  (repeat' split) <;> simp

theorem Own.alloc {w : World} {base : Nat} {v : Value} {l : List Nat} (h : Own w base v l) (o : Obj) : Own (w.alloc o) base v l := World.ownsRow.alloc h o

/-- The slice that stands for a call's further arguments. -/
theorem lit_bts (w : World) (l : List Nat) (hl : ∀ x ∈ l, x < 256) (cs : Array Value) (hcs : cs.toList = l.map bval) : Bts (w.alloc (.cells cs 5)) (some ⟨w.heap.size, 0, none⟩) l := by
  refine ⟨hl, fun _ => ⟨w.heap.size, 0, rfl, fun i hi => ?_⟩⟩
  rw [cell_of_row _ w.heap.size (0 + i) cs _ _ (heap_alloc_new w _), Nat.zero_add, ← Array.getElem?_toList, hcs]
  simp [bval, hi]

/-- What appending a character to a row comes to. -/
def Apps (w : World) (base : Nat) (v : Value) (l : List Nat) (c : Nat) (e : Ending) (w' : World) : Prop :=
  ∃ v', e = .returned v' ∧ Own w' base v' (l ++ enc c) ∧ w.grownBy w' v.ownBlock ∧ (v'.ownBlock = v.ownBlock ∨ ∃ g, v'.ownBlock = some g ∧ w.heap.size ≤ g)

theorem grown_alloc {w w' : World} {o : Obj} {row : Option Nat} (h : (w.alloc o).grownBy w' row) : w.grownBy w' row :=
  ⟨h.os, h.tape, h.output, Nat.le_trans (by simp) h.size, fun i hi hne => (h.block i (by simp; omega) hne).trans (Below.heap_alloc w o i hi)⟩

theorem at_or {w : World} {v v' : Value} (h : v'.ownBlock = v.ownBlock ∨ v'.ownBlock = some (w.heap.size + 1)) : v'.ownBlock = v.ownBlock ∨ ∃ g, v'.ownBlock = some g ∧ w.heap.size ≤ g := by
  rcases h with h | h
  · exact .inl h
  · exact .inr ⟨_, h, by omega⟩

set_option maxHeartbeats 2000000 in
set_option maxRecDepth 100000 in
theorem na_two (w : World) (base : Nat) (v : Value) (l : List Nat) (c : Nat) (h0 : 128 ≤ c) (h1 : c < 2048) (hown : Own w base v l) (hlen : l.length + 4 ≤ 140737488355328) (hbase : base ≤ w.heap.size) :
    Calls Tryz.prog 36 #[v, .int .i32 c] w (Apps w base v l c) := by
  have he : enc c = [192 + c / 64, 128 + c % 64] := by unfold enc; (repeat' split) <;> first | rfl | (exfalso; omega)
  unfold Apps
  rw [he]
  have hlt : ∀ x ∈ ([192 + c / 64, 128 + c % 64] : List Nat), x < 256 := by intro x hx; simp at hx; omega
  have i1 : (c : Int) ≤ 2047 := by omega
  have Ho := Lib.hid hown
  clear he hown
  go_enter Tryz.func36, Tryz.ntmps36
  go_wp2_with (at_builtin; refine wpList_app rfl (.tmp 14) (.tmp 23) rfl base v l rfl (Ho.out.alloc _) (some ⟨w.heap.size, 0, none⟩) 2 [192 + c / 64, 128 + c % 64] rfl ?hl (fun h => by cases h) (by simp only [List.length_cons, List.length_nil]; omega) (by rw [World.size_alloc]; omega) ?_)
  case hl => exact lit_bts w _ hlt _ (by simp [bval])
  intro v' w2 hown' hg hat
  go_wp2
  go_ret
  exact ⟨v', rfl, hown', grown_alloc hg, at_or hat⟩

set_option maxHeartbeats 2000000 in
set_option maxRecDepth 100000 in
theorem na_threeLo (w : World) (base : Nat) (v : Value) (l : List Nat) (c : Nat) (h0 : 2048 ≤ c) (h1 : c < 55296) (hown : Own w base v l) (hlen : l.length + 4 ≤ 140737488355328) (hbase : base ≤ w.heap.size) :
    Calls Tryz.prog 36 #[v, .int .i32 c] w (Apps w base v l c) := by
  have he : enc c = [224 + c / 4096, 128 + c / 64 % 64, 128 + c % 64] := by unfold enc; (repeat' split) <;> first | rfl | (exfalso; omega)
  unfold Apps
  rw [he]
  have hlt : ∀ x ∈ ([224 + c / 4096, 128 + c / 64 % 64, 128 + c % 64] : List Nat), x < 256 := by intro x hx; simp at hx; omega
  have i1 : ¬ (c : Int) ≤ 2047 := by omega
  have i2 : (c : Int) < 55296 := by omega
  have Ho := Lib.hid hown
  clear he hown
  go_enter Tryz.func36, Tryz.ntmps36
  go_wp2_with (at_builtin; refine wpList_app rfl (.tmp 34) (.tmp 48) rfl base v l rfl (Ho.out.alloc _) (some ⟨w.heap.size, 0, none⟩) 3 [224 + c / 4096, 128 + c / 64 % 64, 128 + c % 64] rfl ?hl (fun h => by cases h) (by simp only [List.length_cons, List.length_nil]; omega) (by rw [World.size_alloc]; omega) ?_)
  case hl => exact lit_bts w _ hlt _ (by simp [bval])
  intro v' w2 hown' hg hat
  go_wp2
  go_ret
  exact ⟨v', rfl, hown', grown_alloc hg, at_or hat⟩

set_option maxHeartbeats 2000000 in
set_option maxRecDepth 100000 in
theorem na_threeHi (w : World) (base : Nat) (v : Value) (l : List Nat) (c : Nat) (h0 : 57343 < c) (h1 : c < 65536) (hown : Own w base v l) (hlen : l.length + 4 ≤ 140737488355328) (hbase : base ≤ w.heap.size) :
    Calls Tryz.prog 36 #[v, .int .i32 c] w (Apps w base v l c) := by
  have he : enc c = [224 + c / 4096, 128 + c / 64 % 64, 128 + c % 64] := by unfold enc; (repeat' split) <;> first | rfl | (exfalso; omega)
  unfold Apps
  rw [he]
  have hlt : ∀ x ∈ ([224 + c / 4096, 128 + c / 64 % 64, 128 + c % 64] : List Nat), x < 256 := by intro x hx; simp at hx; omega
  have i1 : ¬ (c : Int) ≤ 2047 := by omega
  have i2 : ¬ (c : Int) < 55296 := by omega
  have i3 : (57343 : Int) < c := by omega
  have i4 : (c : Int) ≤ 65535 := by omega
  have Ho := Lib.hid hown
  clear he hown
  go_enter Tryz.func36, Tryz.ntmps36
  go_wp2_with (at_builtin; refine wpList_app rfl (.tmp 34) (.tmp 48) rfl base v l rfl (Ho.out.alloc _) (some ⟨w.heap.size, 0, none⟩) 3 [224 + c / 4096, 128 + c / 64 % 64, 128 + c % 64] rfl ?hl (fun h => by cases h) (by simp only [List.length_cons, List.length_nil]; omega) (by rw [World.size_alloc]; omega) ?_)
  case hl => exact lit_bts w _ hlt _ (by simp [bval])
  intro v' w2 hown' hg hat
  go_wp2
  go_ret
  exact ⟨v', rfl, hown', grown_alloc hg, at_or hat⟩

set_option maxHeartbeats 2000000 in
set_option maxRecDepth 100000 in
theorem na_four (w : World) (base : Nat) (v : Value) (l : List Nat) (c : Nat) (h0 : 65536 ≤ c) (h1 : c ≤ 1114111) (hown : Own w base v l) (hlen : l.length + 4 ≤ 140737488355328) (hbase : base ≤ w.heap.size) :
    Calls Tryz.prog 36 #[v, .int .i32 c] w (Apps w base v l c) := by
  have he : enc c = [240 + c / 262144, 128 + c / 4096 % 64, 128 + c / 64 % 64, 128 + c % 64] := by unfold enc; (repeat' split) <;> first | rfl | (exfalso; omega)
  unfold Apps
  rw [he]
  have hlt : ∀ x ∈ ([240 + c / 262144, 128 + c / 4096 % 64, 128 + c / 64 % 64, 128 + c % 64] : List Nat), x < 256 := by intro x hx; simp at hx; omega
  have i1 : ¬ (c : Int) ≤ 2047 := by omega
  have i2 : ¬ (c : Int) < 55296 := by omega
  have i3 : (57343 : Int) < c := by omega
  have i4 : ¬ (c : Int) ≤ 65535 := by omega
  have i5 : (65535 : Int) < c := by omega
  have i6 : (c : Int) ≤ 1114111 := by omega
  have Ho := Lib.hid hown
  clear he hown
  go_enter Tryz.func36, Tryz.ntmps36
  go_wp2_with (at_builtin; refine wpList_app rfl (.tmp 57) (.tmp 76) rfl base v l rfl (Ho.out.alloc _) (some ⟨w.heap.size, 0, none⟩) 4 [240 + c / 262144, 128 + c / 4096 % 64, 128 + c / 64 % 64, 128 + c % 64] rfl ?hl (fun h => by cases h) (by simp only [List.length_cons, List.length_nil]; omega) (by rw [World.size_alloc]; omega) ?_)
  case hl => exact lit_bts w _ hlt _ (by simp [bval])
  intro v' w2 hown' hg hat
  go_wp2
  go_ret
  exact ⟨v', rfl, hown', grown_alloc hg, at_or hat⟩

theorem na_any (w : World) (base : Nat) (v : Value) (l : List Nat) (c : Nat) (h0 : 128 ≤ c) (hc : isCh c = true) (hown : Own w base v l) (hlen : l.length + 4 ≤ 140737488355328) (hbase : base ≤ w.heap.size) :
    Calls Tryz.prog 36 #[v, .int .i32 c] w (Apps w base v l c) := by
  have h := of_decide_eq_true hc
  by_cases h1 : c < 2048
  · exact na_two w base v l c h0 h1 hown hlen hbase
  · by_cases h2 : c < 55296
    · exact na_threeLo w base v l c (by omega) h2 hown hlen hbase
    · by_cases h3 : c < 65536
      · exact na_threeHi w base v l c (by omega) h3 hown hlen hbase
      · exact na_four w base v l c (by omega) (by omega) hown hlen hbase

set_option maxHeartbeats 2000000 in
set_option maxRecDepth 100000 in
theorem rune_app (w : World) (base : Nat) (v : Value) (l : List Nat) (c : Nat) (hc : isCh c = true) (hown : Own w base v l) (hlen : l.length + 4 ≤ 140737488355328) (hbase : base ≤ w.heap.size) :
    Calls Tryz.prog 22 #[v, .int .i32 c] w (Apps w base v l c) := by
  have h := of_decide_eq_true hc
  by_cases h1 : c < 128
  · have he : enc c = [c] := by unfold enc; rw [if_pos h1]
    unfold Apps
    rw [he]
    have hlt : ∀ x ∈ ([c] : List Nat), x < 256 := by intro x hx; simp at hx; omega
    have i1 : (c : Int) ≤ 127 := by omega
    have i2 : (0 : Int) ≤ c := by omega
    have Ho := Lib.hid hown
    clear he hown hc h
    go_enter Tryz.func22, Tryz.ntmps22
    go_wp2_with (at_builtin; refine wpList_app rfl (.tmp 8) (.tmp 11) rfl base v l rfl (Ho.out.alloc _) (some ⟨w.heap.size, 0, none⟩) 1 [c] rfl ?hl (fun h => by cases h) (by simp only [List.length_cons, List.length_nil]; omega) (by rw [World.size_alloc]; omega) ?_)
    case hl => exact lit_bts w _ hlt _ (by simp [bval])
    intro v' w2 hown' hg hat
    go_wp2
    go_ret
    exact ⟨v', rfl, hown', grown_alloc hg, at_or hat⟩
  · have K := Lib.hid (na_any w base v l c (by omega) hc hown hlen hbase)
    have i1 : ¬ (c : Int) ≤ 127 := by omega
    have i2 : (c : Int) ≤ 1114111 := by omega
    clear hown hc h
    go_enter Tryz.func22, Tryz.ntmps22
    go_wp2_with fail
    refine K.out.mono ?_
    rintro e w1 ⟨v', rfl, ho, hg, hat⟩
    go_wp2
    go_ret
    exact ⟨v', rfl, ho, hg, hat⟩

end Go.Proofs.YtdaenaoagejgeaaGreatDoor.U
