/-
  The document: Line, where there is none.
-/
import Derived.Test.YthfiilhbgogoaaaGreatDoorRefX
import Derived.Test.YthfiilhbgogoaaaGreatDoorRefC
import Derived.Test.YthfiilhbgogoaaaGreatDoorLine
namespace Go.Proofs.YthfiilhbgogoaaaGreatDoor
open Go.RowKit Go.Lib
set_option linter.unusedVariables false

theorem lnE_0 (f m t : Nat) (a : Option Addr) (c : Nat) (l : List UInt8) (n : Int) (ok : Bool) : lnE ⟨0, f, m, t, a, c, l, n, ok⟩ = if n < 0 ∨ bare (offs [.ok, .attrs] ⟨0, f, m, t, a, c, l, n, ok⟩) = false then ([], 8) else ([103, 111, 116] ++ wks [.ok, .attrs] ⟨0, f, m, t, a, c, l, n, ok⟩, 0) := by
  unfold lnE
  rw [if_neg (show ¬ ((0 : Int) < 0 ∨ 7 ≤ (0 : Int)) by decide)]
  rfl
theorem lnE_1 (f m t : Nat) (a : Option Addr) (c : Nat) (l : List UInt8) (n : Int) (ok : Bool) : lnE ⟨1, f, m, t, a, c, l, n, ok⟩ = if n < 0 ∨ bare (offs [.ok, .attrs] ⟨1, f, m, t, a, c, l, n, ok⟩) = false then ([], 8) else ([119, 97, 115] ++ wks [.ok, .attrs] ⟨1, f, m, t, a, c, l, n, ok⟩, 0) := by
  unfold lnE
  rw [if_neg (show ¬ ((1 : Int) < 0 ∨ 7 ≤ (1 : Int)) by decide)]
  rfl
theorem lnE_2 (f m t : Nat) (a : Option Addr) (c : Nat) (l : List UInt8) (n : Int) (ok : Bool) : lnE ⟨2, f, m, t, a, c, l, n, ok⟩ = if n < 0 ∨ bare (offs [.ok, .data, .num] ⟨2, f, m, t, a, c, l, n, ok⟩) = false then ([], 8) else ([119, 114, 111, 116, 101] ++ wks [.ok, .data, .num] ⟨2, f, m, t, a, c, l, n, ok⟩, 0) := by
  unfold lnE
  rw [if_neg (show ¬ ((2 : Int) < 0 ∨ 7 ≤ (2 : Int)) by decide)]
  rfl
theorem lnE_3 (f m t : Nat) (a : Option Addr) (c : Nat) (l : List UInt8) (n : Int) (ok : Bool) : lnE ⟨3, f, m, t, a, c, l, n, ok⟩ = if n < 0 ∨ bare (offs [.ok, .num] ⟨3, f, m, t, a, c, l, n, ok⟩) = false then ([], 8) else ([114, 101, 97, 100] ++ wks [.ok, .num] ⟨3, f, m, t, a, c, l, n, ok⟩, 0) := by
  unfold lnE
  rw [if_neg (show ¬ ((3 : Int) < 0 ∨ 7 ≤ (3 : Int)) by decide)]
  rfl
theorem lnE_4 (f m t : Nat) (a : Option Addr) (c : Nat) (l : List UInt8) (n : Int) (ok : Bool) : lnE ⟨4, f, m, t, a, c, l, n, ok⟩ = if n < 0 ∨ bare (offs [.num] ⟨4, f, m, t, a, c, l, n, ok⟩) = false then ([], 8) else ([115, 105, 103, 110, 97, 108] ++ wks [.num] ⟨4, f, m, t, a, c, l, n, ok⟩, 0) := by
  unfold lnE
  rw [if_neg (show ¬ ((4 : Int) < 0 ∨ 7 ≤ (4 : Int)) by decide)]
  rfl
theorem lnE_5 (f m t : Nat) (a : Option Addr) (c : Nat) (l : List UInt8) (n : Int) (ok : Bool) : lnE ⟨5, f, m, t, a, c, l, n, ok⟩ = if n < 0 ∨ bare (offs [] ⟨5, f, m, t, a, c, l, n, ok⟩) = false then ([], 8) else ([101, 110, 100] ++ wks [] ⟨5, f, m, t, a, c, l, n, ok⟩, 0) := by
  unfold lnE
  rw [if_neg (show ¬ ((5 : Int) < 0 ∨ 7 ≤ (5 : Int)) by decide)]
  rfl
theorem lnE_6 (f m t : Nat) (a : Option Addr) (c : Nat) (l : List UInt8) (n : Int) (ok : Bool) : lnE ⟨6, f, m, t, a, c, l, n, ok⟩ = if n < 0 ∨ bare (offs [] ⟨6, f, m, t, a, c, l, n, ok⟩) = false then ([], 8) else ([104, 105, 115, 116, 111, 114, 121] ++ wks [] ⟨6, f, m, t, a, c, l, n, ok⟩, 0) := by
  unfold lnE
  rw [if_neg (show ¬ ((6 : Int) < 0 ∨ 7 ≤ (6 : Int)) by decide)]
  rfl
set_option maxHeartbeats 2000000 in
set_option maxRecDepth 100000 in
theorem rline_bad0 (f m t : Nat) (a : Option Addr) (c : Nat) (l : List UInt8) (n : Int) (ok : Bool) (w : World) (h : n < 0 ∨ bare (offs [.ok, .attrs] ⟨0, f, m, t, a, c, l, n, ok⟩) = false) : Calls Tryz.prog 20 #[.agg #[.int .i64 0, .int .u32 (f : Int), .int .u8 (m : Int), .int .u8 (t : Int), .slice a l.length c, .int .i64 n, .bool ok]] w (Tells (.tuple #[.string (st []), .int .i64 8]) w) := by
  by_cases hl : l = []
  · subst hl
    by_cases hn : n = 0
    · subst hn
      exact absurd h (by simp [bare, offs, off])
    · have hnb : (n == 0) = false := beq_eq_false_iff_ne.2 hn
      have hnb2 : (n != 0) = true := by simp [bne, hnb]
      clear h
      go_enter Tryz.func20, Tryz.ntmps20
      go_wp2
      go_ret2
      exact ⟨rfl, (Stp.alloc _ _ _).trans (Stp.alloc _ _ _)⟩
  · have hlp : 0 < l.length := List.length_pos_iff.2 hl
    have hlz : (0 : Int) < (l.length : Int) := by omega
    clear h hl
    go_enter Tryz.func20, Tryz.ntmps20
    go_wp2
    go_ret2
    exact ⟨rfl, (Stp.alloc _ _ _).trans (Stp.alloc _ _ _)⟩
set_option maxHeartbeats 2000000 in
set_option maxRecDepth 100000 in
theorem rline_bad1 (f m t : Nat) (a : Option Addr) (c : Nat) (l : List UInt8) (n : Int) (ok : Bool) (w : World) (h : n < 0 ∨ bare (offs [.ok, .attrs] ⟨1, f, m, t, a, c, l, n, ok⟩) = false) : Calls Tryz.prog 20 #[.agg #[.int .i64 1, .int .u32 (f : Int), .int .u8 (m : Int), .int .u8 (t : Int), .slice a l.length c, .int .i64 n, .bool ok]] w (Tells (.tuple #[.string (st []), .int .i64 8]) w) := by
  by_cases hl : l = []
  · subst hl
    by_cases hn : n = 0
    · subst hn
      exact absurd h (by simp [bare, offs, off])
    · have hnb : (n == 0) = false := beq_eq_false_iff_ne.2 hn
      have hnb2 : (n != 0) = true := by simp [bne, hnb]
      clear h
      go_enter Tryz.func20, Tryz.ntmps20
      go_wp2
      go_ret2
      exact ⟨rfl, (Stp.alloc _ _ _).trans (Stp.alloc _ _ _)⟩
  · have hlp : 0 < l.length := List.length_pos_iff.2 hl
    have hlz : (0 : Int) < (l.length : Int) := by omega
    clear h hl
    go_enter Tryz.func20, Tryz.ntmps20
    go_wp2
    go_ret2
    exact ⟨rfl, (Stp.alloc _ _ _).trans (Stp.alloc _ _ _)⟩
set_option maxHeartbeats 2000000 in
set_option maxRecDepth 100000 in
theorem rline_bad2 (f m t : Nat) (a : Option Addr) (c : Nat) (l : List UInt8) (n : Int) (ok : Bool) (w : World) (h : n < 0 ∨ bare (offs [.ok, .data, .num] ⟨2, f, m, t, a, c, l, n, ok⟩) = false) : Calls Tryz.prog 20 #[.agg #[.int .i64 2, .int .u32 (f : Int), .int .u8 (m : Int), .int .u8 (t : Int), .slice a l.length c, .int .i64 n, .bool ok]] w (Tells (.tuple #[.string (st []), .int .i64 8]) w) := by
  by_cases hf : f = 0
  · subst hf
    by_cases hm : m = 0
    · subst hm
      by_cases ht : t = 0
      · subst ht
        by_cases hng : n < 0
        · clear h
          go_enter Tryz.func20, Tryz.ntmps20
          go_wp2
          go_ret2
          exact ⟨rfl, (Stp.alloc _ _ _).trans (Stp.alloc _ _ _)⟩
        · exact absurd h (by simp [bare, offs, off]; omega)
      · have htb : ((t : Int) == 0) = false := beq_eq_false_iff_ne.2 (by omega)
        clear h
        go_enter Tryz.func20, Tryz.ntmps20
        go_wp2
        go_ret2
        exact ⟨rfl, (Stp.alloc _ _ _).trans (Stp.alloc _ _ _)⟩
    · have hmb : ((m : Int) == 0) = false := beq_eq_false_iff_ne.2 (by omega)
      clear h
      go_enter Tryz.func20, Tryz.ntmps20
      go_wp2
      go_ret2
      exact ⟨rfl, (Stp.alloc _ _ _).trans (Stp.alloc _ _ _)⟩
  · have hfb : ((f : Int) == 0) = false := beq_eq_false_iff_ne.2 (by omega)
    clear h
    go_enter Tryz.func20, Tryz.ntmps20
    go_wp2
    go_ret2
    exact ⟨rfl, (Stp.alloc _ _ _).trans (Stp.alloc _ _ _)⟩
set_option maxHeartbeats 2000000 in
set_option maxRecDepth 100000 in
theorem rline_bad3 (f m t : Nat) (a : Option Addr) (c : Nat) (l : List UInt8) (n : Int) (ok : Bool) (w : World) (h : n < 0 ∨ bare (offs [.ok, .num] ⟨3, f, m, t, a, c, l, n, ok⟩) = false) : Calls Tryz.prog 20 #[.agg #[.int .i64 3, .int .u32 (f : Int), .int .u8 (m : Int), .int .u8 (t : Int), .slice a l.length c, .int .i64 n, .bool ok]] w (Tells (.tuple #[.string (st []), .int .i64 8]) w) := by
  by_cases hf : f = 0
  · subst hf
    by_cases hm : m = 0
    · subst hm
      by_cases ht : t = 0
      · subst ht
        by_cases hl : l = []
        · subst hl
          by_cases hng : n < 0
          · clear h
            go_enter Tryz.func20, Tryz.ntmps20
            go_wp2
            go_ret2
            exact ⟨rfl, (Stp.alloc _ _ _).trans (Stp.alloc _ _ _)⟩
          · exact absurd h (by simp [bare, offs, off]; omega)
        · have hlp : 0 < l.length := List.length_pos_iff.2 hl
          have hlz : (0 : Int) < (l.length : Int) := by omega
          clear h hl
          go_enter Tryz.func20, Tryz.ntmps20
          go_wp2
          go_ret2
          exact ⟨rfl, (Stp.alloc _ _ _).trans (Stp.alloc _ _ _)⟩
      · have htb : ((t : Int) == 0) = false := beq_eq_false_iff_ne.2 (by omega)
        clear h
        go_enter Tryz.func20, Tryz.ntmps20
        go_wp2
        go_ret2
        exact ⟨rfl, (Stp.alloc _ _ _).trans (Stp.alloc _ _ _)⟩
    · have hmb : ((m : Int) == 0) = false := beq_eq_false_iff_ne.2 (by omega)
      clear h
      go_enter Tryz.func20, Tryz.ntmps20
      go_wp2
      go_ret2
      exact ⟨rfl, (Stp.alloc _ _ _).trans (Stp.alloc _ _ _)⟩
  · have hfb : ((f : Int) == 0) = false := beq_eq_false_iff_ne.2 (by omega)
    clear h
    go_enter Tryz.func20, Tryz.ntmps20
    go_wp2
    go_ret2
    exact ⟨rfl, (Stp.alloc _ _ _).trans (Stp.alloc _ _ _)⟩
set_option maxHeartbeats 2000000 in
set_option maxRecDepth 100000 in
theorem rline_bad4 (f m t : Nat) (a : Option Addr) (c : Nat) (l : List UInt8) (n : Int) (ok : Bool) (w : World) (h : n < 0 ∨ bare (offs [.num] ⟨4, f, m, t, a, c, l, n, ok⟩) = false) : Calls Tryz.prog 20 #[.agg #[.int .i64 4, .int .u32 (f : Int), .int .u8 (m : Int), .int .u8 (t : Int), .slice a l.length c, .int .i64 n, .bool ok]] w (Tells (.tuple #[.string (st []), .int .i64 8]) w) := by
  by_cases hf : f = 0
  · subst hf
    by_cases hm : m = 0
    · subst hm
      by_cases ht : t = 0
      · subst ht
        by_cases hl : l = []
        · subst hl
          cases ok with
          | false =>
            by_cases hng : n < 0
            · clear h
              go_enter Tryz.func20, Tryz.ntmps20
              go_wp2
              go_ret2
              exact ⟨rfl, (Stp.alloc _ _ _).trans (Stp.alloc _ _ _)⟩
            · exact absurd h (by simp [bare, offs, off]; omega)
          | true =>
            clear h
            go_enter Tryz.func20, Tryz.ntmps20
            go_wp2
            go_ret2
            exact ⟨rfl, (Stp.alloc _ _ _).trans (Stp.alloc _ _ _)⟩
        · have hlp : 0 < l.length := List.length_pos_iff.2 hl
          have hlz : (0 : Int) < (l.length : Int) := by omega
          clear h hl
          go_enter Tryz.func20, Tryz.ntmps20
          go_wp2
          go_ret2
          exact ⟨rfl, (Stp.alloc _ _ _).trans (Stp.alloc _ _ _)⟩
      · have htb : ((t : Int) == 0) = false := beq_eq_false_iff_ne.2 (by omega)
        clear h
        go_enter Tryz.func20, Tryz.ntmps20
        go_wp2
        go_ret2
        exact ⟨rfl, (Stp.alloc _ _ _).trans (Stp.alloc _ _ _)⟩
    · have hmb : ((m : Int) == 0) = false := beq_eq_false_iff_ne.2 (by omega)
      clear h
      go_enter Tryz.func20, Tryz.ntmps20
      go_wp2
      go_ret2
      exact ⟨rfl, (Stp.alloc _ _ _).trans (Stp.alloc _ _ _)⟩
  · have hfb : ((f : Int) == 0) = false := beq_eq_false_iff_ne.2 (by omega)
    clear h
    go_enter Tryz.func20, Tryz.ntmps20
    go_wp2
    go_ret2
    exact ⟨rfl, (Stp.alloc _ _ _).trans (Stp.alloc _ _ _)⟩
set_option maxHeartbeats 2000000 in
set_option maxRecDepth 100000 in
theorem rline_bad5 (f m t : Nat) (a : Option Addr) (c : Nat) (l : List UInt8) (n : Int) (ok : Bool) (w : World) (h : n < 0 ∨ bare (offs [] ⟨5, f, m, t, a, c, l, n, ok⟩) = false) : Calls Tryz.prog 20 #[.agg #[.int .i64 5, .int .u32 (f : Int), .int .u8 (m : Int), .int .u8 (t : Int), .slice a l.length c, .int .i64 n, .bool ok]] w (Tells (.tuple #[.string (st []), .int .i64 8]) w) := by
  by_cases hf : f = 0
  · subst hf
    by_cases hm : m = 0
    · subst hm
      by_cases ht : t = 0
      · subst ht
        by_cases hl : l = []
        · subst hl
          by_cases hn : n = 0
          · subst hn
            cases ok with
            | false =>
              exact absurd h (by simp [bare, offs])
            | true =>
              clear h
              go_enter Tryz.func20, Tryz.ntmps20
              go_wp2
              go_ret2
              exact ⟨rfl, (Stp.alloc _ _ _).trans (Stp.alloc _ _ _)⟩
          · have hnb : (n == 0) = false := beq_eq_false_iff_ne.2 hn
            have hnb2 : (n != 0) = true := by simp [bne, hnb]
            clear h
            go_enter Tryz.func20, Tryz.ntmps20
            go_wp2
            go_ret2
            exact ⟨rfl, (Stp.alloc _ _ _).trans (Stp.alloc _ _ _)⟩
        · have hlp : 0 < l.length := List.length_pos_iff.2 hl
          have hlz : (0 : Int) < (l.length : Int) := by omega
          clear h hl
          go_enter Tryz.func20, Tryz.ntmps20
          go_wp2
          go_ret2
          exact ⟨rfl, (Stp.alloc _ _ _).trans (Stp.alloc _ _ _)⟩
      · have htb : ((t : Int) == 0) = false := beq_eq_false_iff_ne.2 (by omega)
        clear h
        go_enter Tryz.func20, Tryz.ntmps20
        go_wp2
        go_ret2
        exact ⟨rfl, (Stp.alloc _ _ _).trans (Stp.alloc _ _ _)⟩
    · have hmb : ((m : Int) == 0) = false := beq_eq_false_iff_ne.2 (by omega)
      clear h
      go_enter Tryz.func20, Tryz.ntmps20
      go_wp2
      go_ret2
      exact ⟨rfl, (Stp.alloc _ _ _).trans (Stp.alloc _ _ _)⟩
  · have hfb : ((f : Int) == 0) = false := beq_eq_false_iff_ne.2 (by omega)
    clear h
    go_enter Tryz.func20, Tryz.ntmps20
    go_wp2
    go_ret2
    exact ⟨rfl, (Stp.alloc _ _ _).trans (Stp.alloc _ _ _)⟩
set_option maxHeartbeats 2000000 in
set_option maxRecDepth 100000 in
theorem rline_bad6 (f m t : Nat) (a : Option Addr) (c : Nat) (l : List UInt8) (n : Int) (ok : Bool) (w : World) (h : n < 0 ∨ bare (offs [] ⟨6, f, m, t, a, c, l, n, ok⟩) = false) : Calls Tryz.prog 20 #[.agg #[.int .i64 6, .int .u32 (f : Int), .int .u8 (m : Int), .int .u8 (t : Int), .slice a l.length c, .int .i64 n, .bool ok]] w (Tells (.tuple #[.string (st []), .int .i64 8]) w) := by
  by_cases hf : f = 0
  · subst hf
    by_cases hm : m = 0
    · subst hm
      by_cases ht : t = 0
      · subst ht
        by_cases hl : l = []
        · subst hl
          by_cases hn : n = 0
          · subst hn
            cases ok with
            | false =>
              exact absurd h (by simp [bare, offs])
            | true =>
              clear h
              go_enter Tryz.func20, Tryz.ntmps20
              go_wp2
              go_ret2
              exact ⟨rfl, (Stp.alloc _ _ _).trans (Stp.alloc _ _ _)⟩
          · have hnb : (n == 0) = false := beq_eq_false_iff_ne.2 hn
            have hnb2 : (n != 0) = true := by simp [bne, hnb]
            clear h
            go_enter Tryz.func20, Tryz.ntmps20
            go_wp2
            go_ret2
            exact ⟨rfl, (Stp.alloc _ _ _).trans (Stp.alloc _ _ _)⟩
        · have hlp : 0 < l.length := List.length_pos_iff.2 hl
          have hlz : (0 : Int) < (l.length : Int) := by omega
          clear h hl
          go_enter Tryz.func20, Tryz.ntmps20
          go_wp2
          go_ret2
          exact ⟨rfl, (Stp.alloc _ _ _).trans (Stp.alloc _ _ _)⟩
      · have htb : ((t : Int) == 0) = false := beq_eq_false_iff_ne.2 (by omega)
        clear h
        go_enter Tryz.func20, Tryz.ntmps20
        go_wp2
        go_ret2
        exact ⟨rfl, (Stp.alloc _ _ _).trans (Stp.alloc _ _ _)⟩
    · have hmb : ((m : Int) == 0) = false := beq_eq_false_iff_ne.2 (by omega)
      clear h
      go_enter Tryz.func20, Tryz.ntmps20
      go_wp2
      go_ret2
      exact ⟨rfl, (Stp.alloc _ _ _).trans (Stp.alloc _ _ _)⟩
  · have hfb : ((f : Int) == 0) = false := beq_eq_false_iff_ne.2 (by omega)
    clear h
    go_enter Tryz.func20, Tryz.ntmps20
    go_wp2
    go_ret2
    exact ⟨rfl, (Stp.alloc _ _ _).trans (Stp.alloc _ _ _)⟩
end Go.Proofs.YthfiilhbgogoaaaGreatDoor
